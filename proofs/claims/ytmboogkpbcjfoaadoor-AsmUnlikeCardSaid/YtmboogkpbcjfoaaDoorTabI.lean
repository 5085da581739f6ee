/- Info, over the translation. -/
import Derived.Test.YtmboogkpbcjfoaaDoorTabKF
import Derived.Test.YtmboogkpbcjfoaaDoorTabW
import Derived.Deep.RegionHeld3
namespace Go.Proofs.YtmboogkpbcjfoaaDoor
open Go.RowKit
set_option linter.unusedVariables false
theorem lookUp_any (code : Nat) (second : Bool) (w : World) (hc : code < 256) (L : Laid w) :
    Calls Tryd.prog 5 #[.int .i64 code, .bool second] w fun e w' => e = .returned (lookV (lookL code second)) ∧ Below w.heap.size w w' := by
  cases second
  · exact lookUp_F code w hc L
  · exact lookUp_T code w hc L
def infoV : Option Opc → Value
  | some o => .tuple #[.agg #[.string ⟨(withL o (letterL o)).toArray⟩, .int .i64 o.bytes, .int .i64 o.cycles, .int .i64 o.taken], .int .i64 0]
  | none => .tuple #[.agg #[.string ⟨#[]⟩, .int .i64 0, .int .i64 0, .int .i64 0], .int .i64 21]
theorem argL_lt (c : Nat) : argL c < 8 := by
  unfold argL
  repeat' split
  all_goals omega
theorem fillA_lt : ∀ (t : List UInt8) (a : Nat), a < 8 → fillA t a < 8
  | [], a, h => h
  | c :: r, a, h => by
    unfold fillA
    refine fillA_lt r _ ?_
    split
    · exact h
    · exact argL_lt _
/-- what the tables say is small -/
theorem look_small (code : Nat) (second : Bool) (hc : code < 256) (o : Opc) (h : lookL code second = some o) : o.text.length ≤ 500 ∧ o.arg < 8 ∧ o.y < 8 := by
  unfold lookL at h
  obtain ⟨r, hr, rfl⟩ := Option.map_eq_some_iff.1 h
  have hf := rules_fine (code / 64) second (by omega) r (List.mem_of_find?_eq_some hr)
  have hl := fillT_len (code / 8 % 8) (code % 8) (by omega) (by omega) r.text
  have ha := fillA_lt r.text 0 (by omega)
  have := hf.len
  unfold opcOf
  split
  · exact ⟨by simp only; omega, ha, by simp only; omega⟩
  · exact ⟨by simp only; omega, ha, by simp only; omega⟩
theorem set4 {W : World} {g : Nat} {a b c d p q r s : Value} {ty : TypeId} (h : W.heap[g]? = some (.cells #[a, b, c, d] ty (0, 0))) :
    (((W.setCell ⟨g, 0, none⟩ p).setCell ⟨g, 1, none⟩ q).setCell ⟨g, 2, none⟩ r).setCell ⟨g, 3, none⟩ s = W.setRow g #[p, q, r, s] := by
  have h1 := setRow_heap W g _ #[p, b, c, d] ty (0, 0) h
  have h2 := setRow_heap W g _ #[p, q, c, d] ty (0, 0) h
  have h3 := setRow_heap W g _ #[p, q, r, d] ty (0, 0) h
  rw [setCell_eq_setRow W g 0 _ ty (0, 0) p h, show (#[a, b, c, d] : Array Value).setIfInBounds 0 p = #[p, b, c, d] from rfl]
  rw [setCell_eq_setRow _ g 1 _ ty (0, 0) q h1, show (#[p, b, c, d] : Array Value).setIfInBounds 1 q = #[p, q, c, d] from rfl, setRow_setRow]
  rw [setCell_eq_setRow _ g 2 _ ty (0, 0) r h2, show (#[p, q, c, d] : Array Value).setIfInBounds 2 r = #[p, q, r, d] from rfl, setRow_setRow]
  rw [setCell_eq_setRow _ g 3 _ ty (0, 0) s h3, show (#[p, q, r, d] : Array Value).setIfInBounds 3 s = #[p, q, r, s] from rfl, setRow_setRow]
theorem letter_len (o : Opc) : (letterL o).length ≤ 10 := by
  unfold letterL
  repeat' split
  all_goals simp [hexL, hexDs]
theorem res4 {W : World} {g : Nat} {a b c d : Value} {ty : TypeId} (h : W.heap[g]? = some (.cells #[a, b, c, d] ty (0, 0))) :
    W.cell? ⟨g, 0, none⟩ = some a ∧ W.cell? ⟨g, 1, none⟩ = some b ∧ W.cell? ⟨g, 2, none⟩ = some c ∧ W.cell? ⟨g, 3, none⟩ = some d ∧ W.frozen? ⟨g, 0, none⟩ = false ∧ W.frozen? ⟨g, 1, none⟩ = false ∧ W.frozen? ⟨g, 2, none⟩ = false ∧ W.frozen? ⟨g, 3, none⟩ = false := by
  refine ⟨?_, ?_, ?_, ?_, ?_, ?_, ?_, ?_⟩
  · rw [cell_of_row _ _ _ _ _ _ h]; rfl
  · rw [cell_of_row _ _ _ _ _ _ h]; rfl
  · rw [cell_of_row _ _ _ _ _ _ h]; rfl
  · rw [cell_of_row _ _ _ _ _ _ h]; rfl
  all_goals simp [World.frozen?, h]
theorem box_kept {t : List UInt8} {a y : Nat} {rb rc rt : Int} {w1 w2 : World} (hb : Below ((w1.alloc (.cells #[.string ⟨t.toArray⟩, .int .i64 a, .int .i64 y, .int .i64 rb, .int .i64 rc, .int .i64 rt] 31)).drew).heap.size ((w1.alloc (.cells #[.string ⟨t.toArray⟩, .int .i64 a, .int .i64 y, .int .i64 rb, .int .i64 rc, .int .i64 rt] 31)).drew) w2) :
    w2.cell? ⟨w1.heap.size, 0, none⟩ = some (.string ⟨t.toArray⟩) ∧ w2.cell? ⟨w1.heap.size, 1, none⟩ = some (.int .i64 a) ∧ w2.cell? ⟨w1.heap.size, 2, none⟩ = some (.int .i64 y) ∧ w2.cell? ⟨w1.heap.size, 3, none⟩ = some (.int .i64 rb) ∧ w2.cell? ⟨w1.heap.size, 4, none⟩ = some (.int .i64 rc) ∧ w2.cell? ⟨w1.heap.size, 5, none⟩ = some (.int .i64 rt) := by
  have h : ∀ k, w2.cell? ⟨w1.heap.size, k, none⟩ = (#[.string ⟨t.toArray⟩, .int .i64 a, .int .i64 y, .int .i64 rb, .int .i64 rc, .int .i64 rt] : Array Value)[k]? := by
    intro k
    rw [hb.cell (p := ⟨w1.heap.size, k, none⟩) (by simp)]
    simp
  exact ⟨h 0, h 1, h 2, h 3, h 4, h 5⟩
theorem box_kept2 {t : List UInt8} {a y : Nat} {rb rc rt : Int} {b : Nat} {w2 w3 : World} (hb : Below w2.heap.size w2 w3) (hlt : b < w2.heap.size)
    (h : w2.cell? ⟨b, 0, none⟩ = some (.string ⟨t.toArray⟩) ∧ w2.cell? ⟨b, 1, none⟩ = some (.int .i64 a) ∧ w2.cell? ⟨b, 2, none⟩ = some (.int .i64 y) ∧ w2.cell? ⟨b, 3, none⟩ = some (.int .i64 rb) ∧ w2.cell? ⟨b, 4, none⟩ = some (.int .i64 rc) ∧ w2.cell? ⟨b, 5, none⟩ = some (.int .i64 rt)) : w3.cell? ⟨b, 0, none⟩ = some (.string ⟨t.toArray⟩) ∧ w3.cell? ⟨b, 1, none⟩ = some (.int .i64 a) ∧ w3.cell? ⟨b, 2, none⟩ = some (.int .i64 y) ∧ w3.cell? ⟨b, 3, none⟩ = some (.int .i64 rb) ∧ w3.cell? ⟨b, 4, none⟩ = some (.int .i64 rc) ∧ w3.cell? ⟨b, 5, none⟩ = some (.int .i64 rt) := by
  obtain ⟨h0, h1, h2, h3, h4, h5⟩ := h
  exact ⟨(hb.cell (p := ⟨b, _, none⟩) hlt).trans h0, (hb.cell (p := ⟨b, _, none⟩) hlt).trans h1, (hb.cell (p := ⟨b, _, none⟩) hlt).trans h2, (hb.cell (p := ⟨b, _, none⟩) hlt).trans h3, (hb.cell (p := ⟨b, _, none⟩) hlt).trans h4, (hb.cell (p := ⟨b, _, none⟩) hlt).trans h5⟩
set_option maxRecDepth 1000000 in
set_option maxHeartbeats 400000 in
theorem info_any (code : Nat) (second : Bool) (w : World) (hc : code < 256) (L : Laid w) :
    Calls Tryd.prog 4 #[.int .i64 code, .bool second] w fun e w' => e = .returned (infoV (lookL code second)) ∧ Below w.heap.size w w' := by
  go_enter Tryd.func4, Tryd.ntmps4
  go_wp2_with fail
  refine (lookUp_any code second _ hc (L.up _)).mono ?_
  rintro e w1 ⟨rfl, hb1⟩
  have hz1 : w.heap.size + 1 ≤ w1.heap.size := by have := hb1.size; simp at this; omega
  have hbw : Below w.heap.size w w1 := ((Below.refl _ w).alloc (Nat.le_refl _) _).trans (hb1.mono (by simp))
  have HR : Hid (w1.heap[w.heap.size]? = some (.cells #[.string ⟨#[]⟩, .int .i64 0, .int .i64 0, .int .i64 0] 24 (0, 0))) := by
    show _ = _
    rw [hb1.block _ (by simp)]; exact heap_alloc_new w _
  have L1 := L.kept (Kept.ofBelow hbw)
  have hsm := look_small code second hc
  have HR1 : Hid (∀ o, (w1.alloc o).heap[w.heap.size]? = some (.cells #[.string ⟨#[]⟩, .int .i64 0, .int .i64 0, .int .i64 0] 24 (0, 0))) := fun o => (Below.heap_alloc _ _ _ (by omega)).trans HR.out
  cases hl : lookL code second with
  | none =>
    have HL : Hid (lookL code second = none) := hl
    clear hl hb1 hsm
    simp only [lookV, noneV]
    go_wp2_with (refine wpList_store_rowTo rfl 24 _ _ rfl rfl w.heap.size #[.string ⟨#[]⟩, .int .i64 0, .int .i64 0, .int .i64 0] rfl rfl 24 _ (HR1.out _) (by kernel_rfl) rfl (by simp [Value.oneCell']) ?_)
    refine bodyPost_ret (v := infoV none) (results_row_tmp Tryd.results4 _ _ w.heap.size 24 _ (0, 0) _ rfl (setRow_heap _ _ _ _ _ _ (HR1.out _)) Tryd.underlying24 rfl (by kernel_rfl)) rfl ⟨?_, below_setRow (hbw.alloc (by omega) _) (Nat.le_refl _) _⟩
    rw [HL.out]
  | some o =>
    obtain ⟨s1, s2, s3⟩ := hsm o hl
    have HL : Hid (lookL code second = some o) := hl
    clear hl hb1 hsm
    obtain ⟨t, a, y, rb, rc, rt⟩ := o
    simp only at s1 s2 s3
    simp only [lookV, opcV]
    have hll := letter_len ⟨t, a, y, rb, rc, rt⟩
    obtain ⟨l, hl⟩ : ∃ l, l = letterL ⟨t, a, y, rb, rc, rt⟩ := ⟨_, rfl⟩
    rw [← hl] at hll
    have HLL : Hid (letterL ⟨t, a, y, rb, rc, rt⟩ = l) := hl.symm
    obtain ⟨X, hX⟩ : ∃ X, X = Lib.replace t [35] l 1 := ⟨_, rfl⟩
    have HX : Hid (Lib.replace t [35] l 1 = X) := hX.symm
    clear hl hX
    have hne0 : w.heap.size ≠ w1.heap.size := by omega
    go_wp2_with fail
    go_region_held3 (fun w' => w'.cell? ⟨w1.heap.size, 0, none⟩ = some (.string ⟨t.toArray⟩) ∧ w'.cell? ⟨w1.heap.size, 1, none⟩ = some (.int .i64 a) ∧ w'.cell? ⟨w1.heap.size, 2, none⟩ = some (.int .i64 y) ∧ w'.cell? ⟨w1.heap.size, 3, none⟩ = some (.int .i64 rb) ∧ w'.cell? ⟨w1.heap.size, 4, none⟩ = some (.int .i64 rc) ∧ w'.cell? ⟨w1.heap.size, 5, none⟩ = some (.int .i64 rt)) (first | (refine ⟨?_, ?_, ?_, ?_, ?_, ?_⟩ <;> (rw [World.cell?_setCell_far _ _ _ _ hne0, World.cell?_setCell_far _ _ _ _ hne0, World.cell?_setCell_far _ _ _ _ hne0, World.cell?_setCell_far _ _ _ _ hne0]; first | exact q0' | exact q1' | exact q2' | exact q3' | exact q4' | exact q5')) | exact ⟨q0', q1', q2', q3', q4', q5'⟩ | exact ⟨q0, q1, q2, q3, q4, q5⟩ | exact box_kept (Below.refl _ _))
      (first
        | (go_at_call 7
           refine (letter_any t a y rb rc rt _ s2 s3).mono ?_
           rw [HLL.out]
           rintro e w2 ⟨rfl, hb2⟩
           have hz2 : w1.heap.size + 1 ≤ w2.heap.size := by have := hb2.size; simp at this; omega
           have hbw2 : Below w.heap.size w w2 := (hbw.alloc (by omega) _).drew.trans (hb2.mono (by simp; omega))
           have L2 := L.kept (Kept.ofBelow hbw2)
           have HR2 : Hid (w2.heap[w.heap.size]? = some (.cells #[.string ⟨#[]⟩, .int .i64 0, .int .i64 0, .int .i64 0] 24 (0, 0))) := (hb2.block _ (by simp; omega)).trans (HR1.out _)
           obtain ⟨q0, q1, q2, q3, q4, q5⟩ := box_kept hb2
           clear hb2)
        | (go_at_call 6
           refine (with_any t l a y rb rc rt _ (by omega) (by omega) L2).mono ?_
           rw [HX.out]
           rintro e w3 ⟨rfl, hb3⟩
           have hz3 := hb3.size
           have hbw3 : Below w.heap.size w w3 := hbw2.trans (hb3.mono (by omega))
           have hlt : w1.heap.size < w2.heap.size := by omega
           have HR3 : Hid (w3.heap[w.heap.size]? = some (.cells #[.string ⟨#[]⟩, .int .i64 0, .int .i64 0, .int .i64 0] 24 (0, 0))) := (hb3.block _ (by omega)).trans HR2.out
           obtain ⟨q0', q1', q2', q3', q4', q5'⟩ := box_kept2 hb3 hlt ⟨q0, q1, q2, q3, q4, q5⟩
           obtain ⟨z0, z1, z2, z3, f0, f1, f2, f3⟩ := res4 HR3.out
           clear hb3))
    rw [set4 HR3.out]
    go_wp2
    refine bodyPost_ret (v := .tuple #[.agg #[.string ⟨X.toArray⟩, .int .i64 rb, .int .i64 rc, .int .i64 rt], .int .i64 0]) (results_row_tmp Tryd.results4 _ _ w.heap.size 24 _ (0, 0) _ rfl (setRow_heap _ _ _ _ _ _ HR3.out) Tryd.underlying24 rfl (by kernel_rfl)) rfl ⟨?_, below_setRow hbw3 (Nat.le_refl _) _⟩
    rw [HL.out]
    simp only [infoV, withL, HLL.out, HX.out]
end Go.Proofs.YtmboogkpbcjfoaaDoor
