/- Arena: find, put and draw on lists of numbers; the first arena that is not open. -/
import Derived.Test.YteijdcidemajfaaArF
import Derived.Test.YteijdcidemajfaaTabL
namespace Go.Proofs.Yteijdcidemajfaa
open Go.RowKit
set_option linter.unusedVariables false
theorem eql_nil_ptr (a : Addr) (w : World) : (binOp .eql 96 (.pointer none) (.pointer (some a))).run Try.prog w = .ok (.bool false) w := by
  have h : Try.prog.underlying 96 = some (.pointer (Try.prog.pointee 96)) := by kernel_rfl
  have h2 : ∀ d, (Op.equalIn (d + 1) 96 (.pointer none) (.pointer (some a))).run Try.prog w = .ok false w := fun d => by simp [Op.equalIn, run_underlying h]
  have h3 : (Op.equal 96 (.pointer none) (.pointer (some a))).run Try.prog w = .ok false w := h2 9999
  simp only [binOp]
  simp [h3]
def ptr (b : Option Nat) : Value := .pointer (b.map fun b => ⟨b, 0, none⟩)
set_option maxRecDepth 100000 in
set_option maxHeartbeats 1000000 in
theorem index_any {W : World} {g : Nat} {ps : List (Option Nat)} (hm : ps.length ≤ 1000) (HG : Hid (∀ j p, ps[j]? = some p → W.cell? ⟨g, j, none⟩ = some (ptr p))) :
    Calls Try.prog 36 #[.slice (some ⟨g, 0, none⟩) ps.length ps.length, .pointer none] W fun e w' => e = .returned (.int .i64 (idxI (ps.findIdx (fun p => p.isNone)) ps.length)) ∧ w' = W := by
  go_enter Try.func36, Try.ntmps36
  go_wp2_with fail
  go_loop [5, 8] (fun _ K => ∃ k : Nat, k ≤ ps.length ∧ K = .int .i64 k ∧ Hid (∀ j y, j < k → ps[j]? = some y → (fun p : Option Nat => p.isNone) y = false)) (fun _ K => ps.length - (intOf K).toNat)
  case atStart => exact ⟨0, Nat.zero_le _, rfl, fun j y hj => absurd hj (by omega)⟩
  case round =>
    obtain ⟨k, hk, rfl, A⟩ := hrel
    by_cases hlt : k < ps.length
    · have d1 : (k : Int) < (ps.length : Int) := by omega
      obtain ⟨p, hy⟩ : ∃ y, ps[k]? = some y := ⟨_, List.getElem?_eq_getElem hlt⟩
      have HY : Hid (ps[k]? = some p) := hy
      have kc := HG.out k p hy
      clear hy
      unfold ptr at kc
      cases p with
      | none =>
        have HF : Hid (ps.findIdx (fun p => p.isNone) = k) := findIdx_hit HY.out rfl A.out
        simp only [Option.map_none] at kc
        go_wp2_with fail
        go_ret
        exact ⟨by rw [HF.out]; unfold idxI; rw [if_pos hlt]; rfl, rfl⟩
      | some b =>
        simp only [Option.map_some] at kc
        have hE := eql_nil_ptr ⟨b, 0, none⟩ W
        go_wp2_with fail
        go_round
        case rel =>
          refine ⟨k + 1, by omega, by go_num, fun j z hj hz => ?_⟩
          by_cases e : j = k
          · subst e
            rw [HY.out] at hz
            injection hz with hz
            subst hz
            rfl
          · exact A.out j z (by omega) hz
        case measure => simp [intOf]; omega
    · have d1 : ¬ (k : Int) < (ps.length : Int) := by omega
      have HF : Hid (ps.findIdx (fun p => p.isNone) = ps.length) := findIdx_none fun j y hj => A.out j y (by have := (List.getElem?_eq_some_iff.1 hj).1; omega) hj
      go_wp2_with fail
      go_ret
      exact ⟨by rw [HF.out]; unfold idxI; rw [if_neg (by omega)]; rfl, rfl⟩
theorem idxI_lt {k n : Nat} (h : k < n) : idxI k n = (k : Int) := if_pos h
theorem idxI_no {k n : Nat} (h : ¬ k < n) : idxI k n = -1 := if_neg h
set_option maxRecDepth 100000 in
theorem findI_any {W : World} {v : Value} {l : List Nat} {lb b : Nat} (own : W.ownsRow 0 3 1 v l.length (nums l)) (h : W.cell? ⟨lb, 0, none⟩ = some (.int .i64 (b : Int))) :
    Calls Try.prog 64 #[v, .func (.func 65) #[] #[.pointer (some ⟨lb, 0, none⟩)]] W fun e w' => e = .returned (.int .i64 ((l.findIdx (fun y => decide (b < y)) : Nat) : Int)) ∧ w' = W := by
  obtain ⟨va, vc, rfl⟩ : ∃ va vc, v = .slice va l.length vc := by
    rcases own_cases own with ⟨hv, hn, _⟩ | ⟨g, cap, hv, _⟩
    · exact ⟨none, 0, by rw [hv, hn]⟩
    · exact ⟨_, _, hv⟩
  have HI : Hid _ := idxI_any own h
  have hle : l.findIdx (fun y => decide (b < y)) ≤ l.length := List.findIdx_le_length
  clear own h
  generalize l.findIdx (fun y => decide (b < y)) = k at *
  generalize l.length = n at *
  by_cases hk : k < n
  · rw [idxI_lt hk] at HI
    go_enter Try.func64, Try.ntmps64
    go_wp2_with fail
    refine Calls.mono HI.out ?_
    rintro e w' ⟨rfl, hw'⟩
    obtain rfl := hw'.symm
    go_wp2_with fail
    go_ret
    exact ⟨rfl, rfl⟩
  · rw [idxI_no hk] at HI
    obtain rfl : k = n := by omega
    go_enter Try.func64, Try.ntmps64
    go_wp2_with fail
    refine Calls.mono HI.out ?_
    rintro e w' ⟨rfl, hw'⟩
    obtain rfl := hw'.symm
    go_wp2_with fail
    go_ret
    exact ⟨rfl, rfl⟩
set_option maxRecDepth 100000 in
theorem findL_any {W : World} {v : Value} {ls : List Loan} {q : Nat} {b : Int} (own : W.ownsRow 0 104 4 v ls.length (loanCells ls)) (h : W.cell? ⟨q, 0, none⟩ = some (.int .i64 b)) :
    Calls Try.prog 68 #[v, .func (.func 69) #[] #[.pointer (some ⟨q, 0, none⟩)]] W fun e w' => e = .returned (.int .i64 ((ls.findIdx (fun l => (l.buf : Int) == b) : Nat) : Int)) ∧ Up W w' := by
  have HI : Hid (Calls Try.prog 90 #[v, .func (.func 69) #[] #[.pointer (some ⟨q, 0, none⟩)]] W fun e w' => e = .returned (.int .i64 (idxI (ls.findIdx (fun l => (l.buf : Int) == b)) ls.length)) ∧ Up W w') := by
    rcases own_cases own with ⟨rfl, hn, _⟩ | ⟨g, cap, rfl, hc, hm, _⟩
    · obtain rfl := List.length_eq_zero_iff.1 hn
      show Calls _ _ _ _ _
      clear own hn h
      go_enter Try.func90, Try.ntmps90
      go_wp2
      go_loop [5, 8] (fun _ k => k = .int .i64 0) (fun _ _ => 0)
      case atStart => exact rfl
      case round =>
        obtain rfl := hrel
        go_wp2
        go_ret
        exact ⟨rfl, Up.refl W⟩
    · exact idxL_any hc hm (fun w u j l hj => loan_range (ownsRow_up own u) hj) h
  obtain ⟨va, vc, rfl⟩ : ∃ va vc, v = .slice va ls.length vc := by
    rcases own_cases own with ⟨hv, hn, _⟩ | ⟨g, cap, hv, _⟩
    · exact ⟨none, 0, by rw [hv, hn]⟩
    · exact ⟨_, _, hv⟩
  have hle : ls.findIdx (fun l => (l.buf : Int) == b) ≤ ls.length := List.findIdx_le_length
  clear own h
  generalize ls.findIdx (fun l => (l.buf : Int) == b) = k at *
  generalize ls.length = n at *
  by_cases hk : k < n
  · rw [idxI_lt hk] at HI
    go_enter Try.func68, Try.ntmps68
    go_wp2_with fail
    refine Calls.mono HI.out ?_
    rintro e w' ⟨rfl, u⟩
    have HU : Hid (Up W w') := u
    clear u
    go_wp2_with fail
    go_ret
    exact ⟨rfl, HU.out⟩
  · rw [idxI_no hk] at HI
    obtain rfl : k = n := by omega
    go_enter Try.func68, Try.ntmps68
    go_wp2_with fail
    refine Calls.mono HI.out ?_
    rintro e w' ⟨rfl, u⟩
    have HU : Hid (Up W w') := u
    clear u
    go_wp2_with fail
    go_ret
    exact ⟨rfl, HU.out⟩
/-- a cell set behind a row's growing -/
theorem Chg.grown {W Wa w1 : World} {q o : Nat} {v v' : Value} {ob : Option Nat} (ua : Up W Wa) (hg : Wa.grownBy w1 v.ownBlock) (hq : q < W.heap.size) (hb : v.ownBlock ≠ some q) (hown : v'.ownBlock = v.ownBlock ∨ v'.ownBlock = some Wa.heap.size) : Chg W (w1.setCell ⟨q, o, none⟩ v') q o v v' := by
  have fs : Fr q w1 (w1.setCell ⟨q, o, none⟩ v') := (Fr.refl q w1).setCell
  refine ⟨fs.os.trans (hg.os.trans ua.os), fs.output.trans (hg.output.trans ua.output), Nat.le_trans ua.size (Nat.le_trans hg.size fs.size), fun cs ty h => ?_, fun b hb1 hb2 hb3 => ?_, ?_⟩
  · have h1 : w1.heap[q]? = some (.cells cs ty (0, 0)) := (hg.block q (Nat.lt_of_lt_of_le hq ua.size) (fun e => hb e.symm)).trans ((ua.block q hq).trans h)
    exact heap_setCell_same w1 q o _ _ v' h1
  · exact (fs.block b (Nat.lt_of_lt_of_le (Nat.lt_of_lt_of_le hb1 ua.size) hg.size) hb2).trans ((hg.block b (Nat.lt_of_lt_of_le hb1 ua.size) (fun e => hb3 e.symm)).trans (ua.block b hb1))
  · rcases hown with e | e
    · exact Or.inl e
    · exact Or.inr ⟨_, e, ua.size⟩
theorem Chg.fr {W Wa w1 : World} {q o g n cap n' : Nat} (ua : Up W Wa) (hf : Fr g Wa w1) (hq : q < W.heap.size) (hb : g ≠ q) : Chg W (w1.setCell ⟨q, o, none⟩ (.slice (some ⟨g, 0, none⟩) n' cap)) q o (.slice (some ⟨g, 0, none⟩) n cap) (.slice (some ⟨g, 0, none⟩) n' cap) := by
  have fs : Fr q w1 (w1.setCell ⟨q, o, none⟩ (.slice (some ⟨g, 0, none⟩) n' cap)) := (Fr.refl q w1).setCell
  refine ⟨fs.os.trans (hf.os.trans ua.os), fs.output.trans (hf.output.trans ua.output), Nat.le_trans ua.size (Nat.le_trans hf.size fs.size), fun cs ty h => ?_, fun b hb1 hb2 hb3 => ?_, Or.inl rfl⟩
  · have h1 : w1.heap[q]? = some (.cells cs ty (0, 0)) := (hf.block q (Nat.lt_of_lt_of_le hq ua.size) (fun e => hb e.symm)).trans ((ua.block q hq).trans h)
    exact heap_setCell_same w1 q o _ _ _ h1
  · exact (fs.block b (Nat.lt_of_lt_of_le (Nat.lt_of_lt_of_le hb1 ua.size) hf.size) hb2).trans ((hf.block b (Nat.lt_of_lt_of_le hb1 ua.size) (fun e => hb3 (by rw [e]; rfl))).trans (ua.block b hb1))
theorem own_slice3 {w : World} {base n size : Nat} {ty : TypeId} {v : Value} {xs : List Value} (h : w.ownsRow base ty size v n xs) : ∃ va vn vc, v = .slice va vn vc := by
  rcases h.2 with ⟨hv, _⟩ | ⟨g, cap, cur, hv, _⟩
  · exact ⟨_, _, _, hv⟩
  · exact ⟨_, _, _, hv⟩
theorem heap_cell {w : World} {q o : Nat} {cs : Array Value} {ty : TypeId} {v : Value} (h : w.heap[q]? = some (.cells cs ty (0, 0))) (ho : cs[o]? = some v) : w.cell? ⟨q, o, none⟩ = some v := by
  rw [cell_of_row _ _ _ _ _ _ h]
  exact ho
theorem heap_fz {w : World} {q o : Nat} {cs : Array Value} {ty : TypeId} (h : w.heap[q]? = some (.cells cs ty (0, 0))) : w.frozen? ⟨q, o, none⟩ = false := by simp [World.frozen?, h]
set_option maxRecDepth 100000 in
set_option maxHeartbeats 1000000 in
/-- put at the end -/
theorem putI_end {W : World} {q o x : Nat} {v : Value} {l : List Nat} {cs : Array Value} {ty : TypeId} (hq : W.heap[q]? = some (.cells cs ty (0, 0))) (ho : cs[o]? = some v) (own : W.ownsRow 0 3 1 v l.length (nums l)) (hb : v.ownBlock ≠ some q) (hn : l.length ≤ 100000) :
    Calls Try.prog 32 #[.pointer (some ⟨q, o, none⟩), .int .i64 (l.length : Int), .int .i64 (x : Int)] W fun e w' => e = .returned (.tuple #[]) ∧ ∃ v', Chg W w' q o v v' ∧ w'.ownsRow 0 3 1 v' (l ++ [x]).length (nums (l ++ [x])) := by
  have hql := heap_at hq
  have HW : Hid (W.heap[q]? = some (.cells cs ty (0, 0)) ∧ cs[o]? = some v ∧ W.ownsRow 0 3 1 v l.length (nums l) ∧ v.ownBlock ≠ some q) := ⟨hq, ho, own, hb⟩
  have kq := heap_cell hq ho
  clear hq ho own hb
  go_enter Try.func32, Try.ntmps32
  go_wp2_with fail
  have ua : Up W (W.alloc (Obj.cells #[.int .i64 (x : Int)] 3)) := (Up.refl W).alloc _
  have ka : (W.alloc (Obj.cells #[.int .i64 (x : Int)] 3)).heap[W.heap.size]? = some (.cells #[.int .i64 (x : Int)] 3 (0, 0)) := heap_alloc_new W _
  have HI : Hid _ := insI_end (vb := W.heap.size) (news := [.int .i64 (x : Int)]) (ownsRow_up HW.out.2.2.1 ua) hn rfl (fun j u hj => by
    match j, hj with
    | 0, hj =>
      rw [Addr.add_lit, cell_of_row _ _ _ _ _ _ ka]
      simpa using hj
    | j + 1, hj => simp at hj) (by intro u hu; simp at hu; subst hu; rfl)
  have HU : Hid (Up W (W.alloc (Obj.cells #[.int .i64 (x : Int)] 3))) := ua
  clear ua ka
  generalize World.alloc W _ = Wa at HI HU ⊢
  refine Calls.mono HI.out ?_
  rintro e w1 ⟨v', rfl, hown, hgrow, hat⟩
  have HG : Hid (w1.ownsRow 0 3 1 v' (l.length + 1) (nums l ++ [.int .i64 (x : Int)]) ∧ Chg W (w1.setCell ⟨q, o, none⟩ v') q o v v') := ⟨hown, Chg.grown (ob := none) HU.out hgrow hql HW.out.2.2.2 hat⟩
  have hq1 : w1.heap[q]? = some (.cells cs ty (0, 0)) := (hgrow.block q (Nat.lt_of_lt_of_le hql HU.out.size) (fun e => HW.out.2.2.2 e.symm)).trans ((HU.out.block q hql).trans HW.out.1)
  have k1 := heap_cell hq1 HW.out.2.1
  have z1 : w1.frozen? ⟨q, o, none⟩ = false := heap_fz hq1
  have HN : Hid (v'.ownBlock ≠ some q) := fun e => by
    rcases hat with h | h
    · exact HW.out.2.2.2 (h ▸ e)
    · rw [h] at e
      have := Option.some.inj e
      have := HU.out.size
      omega
  obtain ⟨va, vn, vc, rfl⟩ := own_slice3 hown
  clear hown hgrow hat HI hq1
  go_wp2_with fail
  go_end0
  refine ⟨rfl, _, HG.out.2, ?_⟩
  rw [← nums_append, List.length_append]
  exact ownsRow_block HG.out.1 (fun g hg => ((Fr.refl q w1).setCell).block g (HG.out.1.lt g hg).2 (fun e => HN.out (e ▸ hg)))
set_option maxRecDepth 100000 in
set_option maxHeartbeats 1000000 in
/-- put where there is room -/
theorem putI_mid {W : World} {q o x i g cap : Nat} {l : List Nat} {cs : Array Value} {ty : TypeId} (hq : W.heap[q]? = some (.cells cs ty (0, 0))) (ho : cs[o]? = some (.slice (some ⟨g, 0, none⟩) l.length cap)) (own : W.ownsRow 0 3 1 (.slice (some ⟨g, 0, none⟩) l.length cap) l.length (nums l)) (hb : g ≠ q) (hi : i < l.length) (hr : l.length + 1 ≤ cap) :
    Calls Try.prog 32 #[.pointer (some ⟨q, o, none⟩), .int .i64 (i : Int), .int .i64 (x : Int)] W fun e w' => e = .returned (.tuple #[]) ∧ Chg W w' q o (.slice (some ⟨g, 0, none⟩) l.length cap) (.slice (some ⟨g, 0, none⟩) (l.length + 1) cap) ∧ w'.ownsRow 0 3 1 (.slice (some ⟨g, 0, none⟩) (l.length + 1) cap) (l.length + 1) (nums (l.take i ++ x :: l.drop i)) := by
  have hql := heap_at hq
  have hgl : g < W.heap.size := by
    obtain ⟨cur, hg, _⟩ := own_open own
    exact heap_at hg
  have HW : Hid (W.heap[q]? = some (.cells cs ty (0, 0)) ∧ cs[o]? = some (.slice (some ⟨g, 0, none⟩) l.length cap) ∧ W.ownsRow 0 3 1 (.slice (some ⟨g, 0, none⟩) l.length cap) l.length (nums l) ∧ g ≠ q) := ⟨hq, ho, own, hb⟩
  have kq := heap_cell hq ho
  clear hq ho own hb
  go_enter Try.func32, Try.ntmps32
  go_wp2_with fail
  have ua : Up W (W.alloc (Obj.cells #[.int .i64 (x : Int)] 3)) := (Up.refl W).alloc _
  have ka : (W.alloc (Obj.cells #[.int .i64 (x : Int)] 3)).heap[W.heap.size]? = some (.cells #[.int .i64 (x : Int)] 3 (0, 0)) := heap_alloc_new W _
  have HI : Hid _ := insI_mid (ownsRow_up HW.out.2.2.1 ua) hi hr ka (by omega) rfl (nums_one l)
  have HU : Hid (Up W (W.alloc (Obj.cells #[.int .i64 (x : Int)] 3))) := ua
  clear ua ka
  generalize World.alloc W _ = Wa at HI HU ⊢
  generalize W.heap.size = sz at HI ⊢
  refine Calls.mono HI.out ?_
  rintro e w1 ⟨rfl, hown, hf⟩
  have HG : Hid (w1.ownsRow 0 3 1 (.slice (some ⟨g, 0, none⟩) (l.length + 1) cap) (l.length + 1) (nums (l.take i ++ x :: l.drop i)) ∧ Chg W (w1.setCell ⟨q, o, none⟩ (.slice (some ⟨g, 0, none⟩) (l.length + 1) cap)) q o (.slice (some ⟨g, 0, none⟩) l.length cap) (.slice (some ⟨g, 0, none⟩) (l.length + 1) cap)) := ⟨by rw [← nums_insert]; exact hown, Chg.fr HU.out hf (heap_at HW.out.1) HW.out.2.2.2⟩
  have hq1 : w1.heap[q]? = some (.cells cs ty (0, 0)) := (hf.block q (Nat.lt_of_lt_of_le (heap_at HW.out.1) HU.out.size) (fun e => HW.out.2.2.2 e.symm)).trans ((HU.out.block q (heap_at HW.out.1)).trans HW.out.1)
  have k1 := heap_cell hq1 HW.out.2.1
  have z1 : w1.frozen? ⟨q, o, none⟩ = false := heap_fz hq1
  clear hown hf HI hq1
  go_wp2_with fail
  go_end0
  refine ⟨rfl, HG.out.2, ?_⟩
  exact ownsRow_block HG.out.1 (fun g' hg => ((Fr.refl q w1).setCell).block g' (HG.out.1.lt g' hg).2 (fun e => HW.out.2.2.2 (by have := Option.some.inj (show some g = some g' from hg); omega)))
set_option maxRecDepth 100000 in
set_option maxHeartbeats 1000000 in
/-- one is drawn -/
theorem drawI_any {W : World} {q o x i m g cap : Nat} {l : List Nat} {cs : Array Value} {ty : TypeId} (hq : W.heap[q]? = some (.cells cs ty (0, 0))) (ho : cs[o]? = some (.slice (some ⟨g, 0, none⟩) (m + 1) cap)) (own : W.ownsRow 0 3 1 (.slice (some ⟨g, 0, none⟩) (m + 1) cap) (m + 1) (nums l)) (hb : g ≠ q) (hi : l[i]? = some x) (hl : l.length = m + 1) :
    Calls Try.prog 39 #[.pointer (some ⟨q, o, none⟩), .int .i64 (i : Int)] W fun e w' => e = .returned (.int .i64 (x : Int)) ∧ Chg W w' q o (.slice (some ⟨g, 0, none⟩) (m + 1) cap) (.slice (some ⟨g, 0, none⟩) m cap) ∧ w'.ownsRow 0 3 1 (.slice (some ⟨g, 0, none⟩) m cap) m (nums (l.eraseIdx i)) := by
  have hil := (List.getElem?_eq_some_iff.1 hi).1
  have kx : W.cell? ⟨g, i, none⟩ = some (.int .i64 (x : Int)) := by
    have := own_cell own i (by omega)
    rw [Nat.zero_add] at this
    rw [this]
    exact nums_at hi
  have HW : Hid (W.heap[q]? = some (.cells cs ty (0, 0)) ∧ cs[o]? = some (.slice (some ⟨g, 0, none⟩) (m + 1) cap) ∧ g ≠ q) := ⟨hq, ho, hb⟩
  have HI : Hid _ := delI_any own (show i ≤ m by omega) (nums_one l)
  have kq := heap_cell hq ho
  have hcm : m + 1 ≤ cap ∧ cap ≤ 9223372036854775807 := by
    obtain ⟨cur, hg, _, h1, h2, _⟩ := own_open own
    unfold maxLen at h2
    omega
  have d1 : (i : Int) < (m : Int) + 1 := by omega
  have d2 : (i : Int) < ((m + 1 : Nat) : Int) := by omega
  obtain ⟨c1, c2⟩ := hcm
  clear hq ho own hb hi hil hl
  go_enter Try.func39, Try.ntmps39
  go_wp2_with fail
  refine Calls.mono HI.out ?_
  rintro e w1 ⟨rfl, hown, hf⟩
  have HG : Hid (w1.ownsRow 0 3 1 (.slice (some ⟨g, 0, none⟩) m cap) m (nums (l.eraseIdx i)) ∧ Chg W (w1.setCell ⟨q, o, none⟩ (.slice (some ⟨g, 0, none⟩) m cap)) q o (.slice (some ⟨g, 0, none⟩) (m + 1) cap) (.slice (some ⟨g, 0, none⟩) m cap)) := ⟨by rw [← nums_erase]; exact hown, Chg.fr (Up.refl W) hf (heap_at HW.out.1) HW.out.2.2⟩
  have hq1 : w1.heap[q]? = some (.cells cs ty (0, 0)) := (hf.block q (heap_at HW.out.1) (fun e => HW.out.2.2 e.symm)).trans HW.out.1
  have k1 := heap_cell hq1 HW.out.2.1
  have z1 : w1.frozen? ⟨q, o, none⟩ = false := heap_fz hq1
  clear hown hf HI hq1 kx kq
  go_wp2_with fail
  go_ret
  refine ⟨rfl, HG.out.2, ?_⟩
  exact ownsRow_block HG.out.1 (fun g' hg => ((Fr.refl q w1).setCell).block g' (HG.out.1.lt g' hg).2 (fun e => HW.out.2.2 (by have := Option.some.inj (show some g = some g' from hg); omega)))
end Go.Proofs.Yteijdcidemajfaa
