/- Arena: Leases. -/
import Derived.Test.YteijdcidemajfaaAsA
namespace Go.Proofs.Yteijdcidemajfaa
open Go.RowKit
set_option linter.unusedVariables false
variable {R : Nat → Option Role} {K K' : Nat → Prop} {w w' W : World} {pb : Nat} {A : Ad} {P : Pl}
def Loan.lease (l : Loan) : List Value := [.int .i64 (l.buf : Int), .int .i64 (l.cls : Int), .int .i64 (l.size : Int)]
theorem Loan.one3 (l : Loan) : ∀ u ∈ l.lease, u.oneCell' = true := by
  intro u hu
  unfold Loan.lease at hu
  simp at hu
  rcases hu with rfl | rfl | rfl <;> rfl
def leaseCells (ls : List Loan) : List Value := ls.flatMap Loan.lease
theorem leaseCells_snoc (ls : List Loan) (l : Loan) : leaseCells (ls ++ [l]) = leaseCells ls ++ l.lease := by unfold leaseCells; rw [List.flatMap_append]; simp
/-- leases so far -/
structure Ls (W : World) (v : Value) (ls : List Loan) (w : World) : Prop where
  up : Up W w
  own : w.ownsRow W.heap.size 38 3 v ls.length (leaseCells ls)
theorem Ls.more {v : Value} {ls : List Loan} (h : Ls W v ls w) (u : Up w w') : Ls W v ls w' := ⟨h.up.trans u, ownsRow_up h.own u⟩
theorem Ls.grown {v v' : Value} {ls : List Loan} {l : Loan} (h : Ls W v ls w) (g : w.grownBy w' v.ownBlock) (o : w'.ownsRow W.heap.size 38 3 v' (ls.length + 1) (leaseCells ls ++ l.lease)) : Ls W v' (ls ++ [l]) w' := by
  refine ⟨⟨g.os.trans h.up.os, g.output.trans h.up.output, Nat.le_trans h.up.size g.size, fun b hb => (g.block b (Nat.lt_of_lt_of_le hb h.up.size) (fun e => ?_)).trans (h.up.block b hb)⟩, ?_⟩
  · rcases h.own.2 with ⟨hv, hn⟩ | ⟨g', cap', cur, hv, hb', _⟩
    · rw [hv] at e
      cases e
    · rw [hv] at e
      injection e with e
      have e : b = g' := e
      omega
  · rw [leaseCells_snoc, List.length_append]
    exact o
set_option maxRecDepth 100000 in
set_option maxHeartbeats 1000000 in
theorem leases_ok {i : Nat} {a : Arn} (h : PlR R K W pb A P) (ok : Ok P) (ha : P.ars[i]? = some (some a)) :
    Calls Try.prog 17 #[.pointer (some ⟨pb, 0, none⟩), .int .i64 (i : Int)] W fun e w' => ∃ v, e = .returned v ∧ Ls W v a.loans w' := by
  have na := ok.na
  have hil := (List.getElem?_eq_some_iff.1 ha).1
  have HO : Hid _ := opened_yes h ha (by omega)
  have hn := ok.loans ha
  have hie : Try.prog.info? 38 = some Try.t38 := by kernel_rfl
  obtain ⟨g1, g2, g3, g4⟩ := h.arn i a ha
  obtain ⟨va, vc, hlv⟩ : ∃ va vc, A.lv i = .slice va a.loans.length vc := by
    rcases own_cases g3 with ⟨hv, hn, _⟩ | ⟨g, cap, hv, _⟩
    · exact ⟨none, 0, by rw [hv, hn]⟩
    · exact ⟨_, _, hv⟩
  rw [hlv] at g2 g3
  have hcm : vc ≤ 9223372036854775807 ∧ (a.loans.length ≤ vc ∨ a.loans.length = 0) := by
    rcases own_cases g3 with ⟨hv, hn, _⟩ | ⟨g, cap, hv, hc, hm, _⟩
    · injection hv with _ _ e
      exact ⟨by omega, Or.inr hn⟩
    · injection hv with _ _ e
      unfold maxLen at hm
      exact ⟨by omega, Or.inl (by omega)⟩
  obtain ⟨hc1, hc2⟩ := hcm
  have HG : Hid (0 < a.loans.length → ∃ g, va = some ⟨g, 0, none⟩) := fun hp => by
    rcases own_cases g3 with ⟨hv, hn, _⟩ | ⟨g, cap, hv, _⟩
    · omega
    · injection hv with e _ _
      exact ⟨g, e⟩
  have HA : Hid (∀ w, Up W w → w.ownsRow 0 104 4 (.slice va a.loans.length vc) a.loans.length (loanCells a.loans)) := fun w u => ownsRow_up g3 u
  have k1 : W.cell? ⟨A.ar i, 1, none⟩ = some (.slice va a.loans.length vc) := heap_cell g2 rfl
  have H0 : Hid (Ls W (.slice none 0 0) (a.loans.take 0) W) := ⟨Up.refl W, ⟨rfl, Or.inl ⟨rfl, rfl⟩⟩⟩
  clear h ok ha hil g1 g2 g3 g4 hlv
  go_enter Try.func17, Try.ntmps17
  go_wp2_with fail
  refine Calls.mono HO.out ?_
  rintro e w' ⟨rfl, hw'⟩
  obtain rfl := hw'.symm
  clear HO
  go_wp2_with fail
  go_loopw [7, 9, 23] (fun V _ I wr => ∃ k : Nat, k ≤ a.loans.length ∧ I = .int .i64 k ∧ Hid (Ls W V (a.loans.take k) wr)) (fun _ _ I _ => a.loans.length - (intOf I).toNat)
  case atStart => exact ⟨0, Nat.zero_le _, rfl, H0⟩
  case round =>
    clear H0 k1
    obtain ⟨k, hk, rfl, M0⟩ := hrel
    by_cases hlt : k < a.loans.length
    · have d1 : (k : Int) < (a.loans.length : Int) := by omega
      obtain ⟨l, hy⟩ : ∃ y, a.loans[k]? = some y := ⟨_, List.getElem?_eq_getElem hlt⟩
      obtain ⟨g, rfl⟩ := HG.out (by omega)
      have HRk : Hid _ := loan_range (HA.out wr M0.out.up) hy
      have HA2 : Hid (∀ o, (wr.alloc o).heap[wr.heap.size]? = some o) := fun o => heap_alloc_new wr o
      have HU : Hid (∀ w old, (wr.alloc (Obj.cells old 104)).setRow wr.heap.size l.cells.toArray = w → Ls W u7 (a.loans.take k) w ∧ w.rangeAt wr.heap.size 0 l.lease) := by
        rintro w old rfl
        refine ⟨M0.out.more (((Up.refl wr).alloc _).setRow (Nat.le_refl _) _), ?_⟩
        have hb := setRow_heap (wr.alloc (Obj.cells old 104)) wr.heap.size _ l.cells.toArray _ _ (heap_alloc_new wr (Obj.cells old 104))
        exact range3 (heap_cell hb rfl) (heap_cell hb rfl) (heap_cell hb rfl)
      have HTk : Hid (a.loans.take (k + 1) = a.loans.take k ++ [l]) := by
        rw [List.take_add_one, hy]
        rfl
      have hlk : (a.loans.take k).length = k := by rw [List.length_take]; omega
      have HLk : Hid ((a.loans.take k).length = k) := hlk
      clear hy HA M0 HG hlk
      go_wp2_with (first
        | (refine wpList_load_mid rfl 104 _ rfl g (k * 4) rfl l.cells _ HRk.out Try.underlying104 rfl (by kernel_rfl) ?_)
        | (refine wpList_store_rowTo rfl 104 _ _ rfl rfl wr.heap.size l.cells.toArray rfl rfl 104 _ (HA2.out _) (by kernel_rfl) rfl l.one ?_
           generalize hW3 : World.setRow _ _ _ = w3
           obtain ⟨hU, hA⟩ := HU.out _ _ hW3
           have H3 : Hid (Ls W u7 (a.loans.take k) w3) := hU
           have HR3 : Hid (w3.rangeAt wr.heap.size 0 [.int .i64 (l.buf : Int), .int .i64 (l.cls : Int), .int .i64 (l.size : Int)]) := hA
           have HB3 : Hid (Ls W u7 (a.loans.take k) (w3.alloc (Obj.cells #[.int .i64 (l.buf : Int), .int .i64 (l.cls : Int), .int .i64 (l.size : Int)] 38)) ∧ ∀ j u, l.lease[j]? = some u → (w3.alloc (Obj.cells #[.int .i64 (l.buf : Int), .int .i64 (l.cls : Int), .int .i64 (l.size : Int)] 38)).cell? ((⟨w3.heap.size, 0, none⟩ : Addr).add j) = some u) := ⟨hU.more ((Up.refl w3).alloc _), fun j u hj => by
             rw [Addr.add_lit, Nat.zero_add]
             exact heap_cell (heap_alloc_new w3 _) (by rw [← hj]; exact Array.getElem?_toList.symm)⟩
           clear hW3 hU hA)
        | (refine wpList_load_mid rfl 38 _ rfl wr.heap.size 0 rfl [.int .i64 (l.buf : Int), .int .i64 (l.cls : Int), .int .i64 (l.size : Int)] _ HR3.out Try.underlying38 rfl (by kernel_rfl) ?_)
        | (at_builtin
           refine wpList_append_own_at2 _ rfl _ _ 41 41 rfl W.heap.size 38 Try.t38 (.agg #[.int .i64 0, .int .i64 0, .int .i64 0]) 3 24 Try.underlying41 Try.underlying41 hie rfl rfl rfl rfl (by decide) u7 _ _ rfl HB3.out.1.own ⟨w3.heap.size, 0, none⟩ 1 1 l.lease rfl rfl HB3.out.2 l.one3 (by rw [HLk.out]; unfold maxLen; omega) (by rw [HLk.out]; omega) HB3.out.1.up.size ?_
           intro v' w4 hown hgrow hat
           have H4 : Hid (Ls W v' (a.loans.take (k + 1)) w4) := by
             rw [HTk.out]
             exact HB3.out.1.grown hgrow hown
           clear hown hgrow hat HB3 H3 HR3))
      refine ⟨⟨k + 1, by omega, by first | rfl | (simp; done), H4⟩, ?_⟩
      simp [intOf]
      omega
    · have d1 : ¬ (k : Int) < (a.loans.length : Int) := by omega
      have HE : Hid (Ls W u7 a.loans wr) := by
        have := M0.out
        rw [List.take_of_length_le (by omega)] at this
        exact this
      clear HA HG M0
      go_wp2_with fail
      go_ret
      exact ⟨u7, by first | rfl | (simp; done), HE.out⟩
end Go.Proofs.Yteijdcidemajfaa
