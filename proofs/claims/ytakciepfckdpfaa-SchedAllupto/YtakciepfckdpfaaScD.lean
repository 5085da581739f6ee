/- Sched: who stands where. -/
import Derived.Test.YtakciepfckdpfaaScC
import Derived.Laws.StructEq
namespace Go.Proofs.Ytakciepfckdpfaa
open Go.RowKit
set_option linter.unusedVariables false
theorem mem_range {w : World} {g cap j : Nat} {ls : List Mem} {l : Mem} {ty : TypeId} (h : w.ownsRow 0 ty 2 (.slice (some ⟨g, 0, none⟩) ls.length cap) ls.length (memCells ls)) (hj : ls[j]? = some l) : w.rangeAt g (j * 2) l.cells := by
  have hl := (List.getElem?_eq_some_iff.1 hj).1
  have f : ∀ r, r < 2 → w.cell? ⟨g, j * 2 + r, none⟩ = l.cells[r]? := fun r hr => by
    have := own_cell h (j * 2 + r) (by omega)
    rw [Nat.zero_add] at this
    rw [this]
    exact memCells_at ls j r l hj hr
  exact range2 (f 0 (by decide)) (f 1 (by decide))
set_option maxRecDepth 100000 in
/-- is it this number? -/
theorem named1_any {W : World} {q : Nat} {l : Mem} {b : Int} (h : W.cell? ⟨q, 0, none⟩ = some (.int .i64 b)) :
    Calls Try.prog 41 #[.agg l.cells.toArray, .pointer (some ⟨q, 0, none⟩)] W fun e w' => e = .returned (.bool (l.id == b)) ∧ Up W w' := by
  have hq := World.block_lt_of_cell? _ _ h
  unfold Mem.cells
  go_enter Try.func41, Try.ntmps41
  go_wp2_with fail
  have u1 := (Up.refl W).alloc (Obj.cells #[.int .i64 l.id, .bool l.rd] 69)
  go_ret
  exact ⟨by first | rfl | (simp; done), u1⟩
theorem eqlT (x y : Mem) (w : World) : (binOp .eql 60 (.agg x.cells.toArray) (.agg y.cells.toArray)).run Try.prog w = .ok (.bool (x.id == y.id && x.rd == y.rd)) w := by
  have hS : Try.prog.underlying 60 = some (.struct (Try.prog.fieldsOf 60)) := by kernel_rfl
  have hp : Try.prog.stoodInHeld 60 = false := by kernel_rfl
  have a3 := Try.isAgg3
  have z3 := Try.sizeOf3
  have a4 := Try.isAgg4
  have z4 := Try.sizeOf4
  have u3 := Try.underlying3
  have u4 := Try.underlying4
  simp only [Mem.cells]
  rw [run_eql_struct, show (10000 : Nat) = 9999 + 1 from rfl, run_equalIn_agg w 9999 60 _ _ hS hp]
  simp only [Program.fieldsOf, Try.underlying60]
  go_simp
  by_cases h1 : x.id = y.id <;> by_cases h2 : x.rd = y.rd <;> simp [h1, h2]
theorem guardT (op : BinOp) (a b : Operand) (x y : Mem) (w : World) : Sem.run Try.prog (eqGuard op 60 a b (.agg x.cells.toArray) (.agg y.cells.toArray)) w = .ok () w := by
  exact run_eqGuard_agg w op 60 a b _ _ (by kernel_rfl)
set_option maxRecDepth 100000 in
set_option maxHeartbeats 1000000 in
theorem idxT_any {W : World} {g cap : Nat} {ls : List Mem} {x : Mem} (hle : ls.length ≤ cap) (hm : cap ≤ maxLen) (HG : Hid (∀ w, Up W w → ∀ j l, ls[j]? = some l → w.rangeAt g (j * 2) l.cells)) :
    Calls Try.prog 46 #[.slice (some ⟨g, 0, none⟩) ls.length cap, .agg x.cells.toArray] W fun e w' => e = .returned (.int .i64 (idxI (ls.findIdx (fun l => x.id == l.id && x.rd == l.rd)) ls.length)) ∧ Up W w' := by
  have hm2 : cap ≤ 9223372036854775807 := by unfold maxLen at hm; omega
  have HE : Hid (∀ (y : Mem) (w : World), (binOp .eql 60 (.agg x.cells.toArray) (.agg y.cells.toArray)).run Try.prog w = .ok (.bool (x.id == y.id && x.rd == y.rd)) w) := eqlT x
  have HGd : Hid (∀ (op : BinOp) (a b : Operand) (y : Mem) (w : World), Sem.run Try.prog (eqGuard op 60 a b (.agg x.cells.toArray) (.agg y.cells.toArray)) w = .ok () w) := fun op a b y w => guardT op a b x y w
  obtain ⟨bx, hbx⟩ : ∃ b, b = W.heap.size := ⟨_, rfl⟩
  have H0 : Hid (∀ w : World, w = W.alloc (.cells x.cells.toArray 60) → Up W w ∧ w.cell? ⟨bx, 0, none⟩ = some (.int .i64 x.id) ∧ w.cell? ⟨bx, 1, none⟩ = some (.bool x.rd)) := fun w hw => by
    subst hw
    subst hbx
    exact ⟨(Up.refl W).alloc _, heap_cell (heap_alloc_new W _) rfl, heap_cell (heap_alloc_new W _) rfl⟩
  have hlb : bx < (W.alloc (.cells x.cells.toArray 60)).heap.size := by rw [hbx]; simp
  clear hm
  obtain ⟨xi, xr⟩ := x
  simp only [Mem.cells] at HE HGd H0 hlb ⊢
  go_enter Try.func46, Try.ntmps46
  go_wp2_with fail
  rw [← hbx]
  have H1 := H0.out _ rfl
  clear H0
  generalize World.alloc W _ = W1 at H1 hlb ⊢
  have HU1 : Hid (Up W W1 ∧ bx < W1.heap.size ∧ W1.cell? ⟨bx, 0, none⟩ = some (.int .i64 xi) ∧ W1.cell? ⟨bx, 1, none⟩ = some (.bool xr)) := ⟨H1.1, hlb, H1.2⟩
  clear H1 hlb hbx
  go_loopw [5, 8] (fun _ K wr => ∃ k : Nat, k ≤ ls.length ∧ K = .int .i64 k ∧ Hid (∀ (j : Nat) (y : Mem), j < k → ls[j]? = some y → (fun l : Mem => xi == l.id && xr == l.rd) y = false) ∧ Hid (Up W1 wr)) (fun _ K _ => ls.length - (intOf K).toNat)
  case atStart => exact ⟨0, Nat.zero_le _, rfl, fun j y hj => absurd hj (by omega), Up.refl W1⟩
  case round =>
    obtain ⟨k, hk, rfl, A, M0⟩ := hrel
    by_cases hlt : k < ls.length
    · have d1 : (k : Int) < (ls.length : Int) := by omega
      obtain ⟨l, hy⟩ : ∃ y, ls[k]? = some y := ⟨_, List.getElem?_eq_getElem hlt⟩
      have HY : Hid (ls[k]? = some l) := hy
      have hr := HG.out wr (HU1.out.1.trans M0.out) k l hy
      obtain ⟨li, lr⟩ := l
      have k0 : wr.cell? ⟨g, k * 2, none⟩ = some (.int .i64 li) := hr 0 _ rfl
      have k1 : wr.cell? ⟨g, k * 2 + 1, none⟩ = some (.bool lr) := hr 1 _ rfl
      have b0 : wr.cell? ⟨bx, 0, none⟩ = some (.int .i64 xi) := (M0.out.cell HU1.out.2.1).trans HU1.out.2.2.1
      have b1 : wr.cell? ⟨bx, 1, none⟩ = some (.bool xr) := (M0.out.cell HU1.out.2.1).trans HU1.out.2.2.2
      have e1 := HE.out ⟨li, lr⟩
      have e2 : ∀ (op : BinOp) (a b : Operand) (w : World), Sem.run Try.prog (eqGuard op 60 a b (.agg [Value.int .i64 xi, .bool xr].toArray) (.agg [Value.int .i64 li, .bool lr].toArray)) w = .ok () w := fun op a b w => HGd.out op a b ⟨li, lr⟩ w
      dsimp only at e1
      clear hy hr HE HGd HG
      have HP : Hid ((fun l : Mem => xi == l.id && xr == l.rd) ⟨li, lr⟩ = (xi == li && xr == lr)) := rfl
      generalize hp : (xi == li && xr == lr) = t at e1 HP
      clear hp
      cases t
      · go_wp2_with fail
        go_quiet (fail)
        have H2 : Hid (Up W1 (wr.drewN nq)) := M0.out.trans (Up.drewN wr nq)
        clear M0
        go_wp2_with fail
        refine ⟨⟨k + 1, by omega, by first | rfl | (simp; done), fun j z hj hz => ?_, H2⟩, ?_⟩
        · by_cases e : j = k
          · subst e
            rw [HY.out] at hz
            injection hz with hz
            subst hz
            exact HP.out
          · exact A.out j z (by omega) hz
        · simp [intOf]
          omega
      · have HF : Hid (ls.findIdx (fun l => xi == l.id && xr == l.rd) = k) := findIdx_hit (p := fun l : Mem => xi == l.id && xr == l.rd) HY.out HP.out A.out
        go_wp2_with fail
        go_quiet (fail)
        have H2 : Hid (Up W1 (wr.drewN nq)) := M0.out.trans (Up.drewN wr nq)
        clear M0
        go_wp2_with fail
        go_ret
        exact ⟨by rw [HF.out]; unfold idxI; rw [if_pos hlt]; rfl, HU1.out.1.trans H2.out⟩
    · have d1 : ¬ (k : Int) < (ls.length : Int) := by omega
      have HF : Hid (ls.findIdx (fun l => xi == l.id && xr == l.rd) = ls.length) := findIdx_none (p := fun l : Mem => xi == l.id && xr == l.rd) fun j y hj => A.out j y (by have := (List.getElem?_eq_some_iff.1 hj).1; omega) hj
      go_wp2_with fail
      go_ret
      exact ⟨by rw [HF.out]; unfold idxI; rw [if_neg (by omega)]; rfl, HU1.out.1.trans M0.out⟩
end Go.Proofs.Ytakciepfckdpfaa
