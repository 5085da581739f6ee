/- Cart: Check of the program and the document's answer the same. -/
import Derived.Test.YtpiboooiofjigaaDoorCcC
import Derived.Test.YtpiboooiofjigaaDoorCcA
import Derived.Test.YtpiboooiofjigaaDoorCcU
namespace Go.Proofs.YtpiboooiofjigaaDoor
open Go.Shelf Go.RowKit
set_option linter.unusedVariables false
set_option linter.unusedSimpArgs false
variable {w w' W : World} {g n : Nat} {f : Nat → Int}
/-- what Check must answer of these bytes -/
def HdIs (f : Nat → Int) (n : Nat) (v : Value) : Prop := ((n < 32768 ∨ 2097152 < n) ∧ v = .tuple #[.agg zHead, .int .i64 41]) ∨ (¬ (n < 32768 ∨ 2097152 < n) ∧ ∃ R b mk, RowIs (f 327).toNat R b ∧ MarkIs f mk ∧ ((faultI mk f R b n ≠ 0 ∧ v = .tuple #[.agg zHead, .int .i64 (faultI mk f R b n)]) ∨ (faultI mk f R b n = 0 ∧ ∃ m, TitleIs f m ∧ v = .tuple #[.agg (headC (strF f 308 m) R (f 328).toNat (f 329).toNat), .int .i64 0])))
theorem title_uniq {m k : Nat} (h : TitleIs f m) (h2 : TitleIs f k) : m = k := by
  obtain ⟨a1, a2, a3⟩ := h
  obtain ⟨b1, b2, b3⟩ := h2
  rcases Nat.lt_trichotomy m k with hlt | rfl | hlt
  · exact absurd (a3 (by omega)) (b2 m hlt)
  · rfl
  · exact absurd (b3 (by omega)) (a2 k hlt)
theorem mark_uniqB {a b : Bool} (h : MarkIs f a) (h2 : MarkIs f b) : a = b := by
  rcases h with ⟨rfl, h⟩ | ⟨rfl, i, hi, h⟩ <;> rcases h2 with ⟨rfl, h2⟩ | ⟨rfl, j, hj, h2⟩
  · rfl
  · exact absurd (h j hj) h2
  · exact absurd (h2 i hi) h
  · rfl
theorem HdIs.uniq {u v : Value} (h : HdIs f n u) (h2 : HdIs f n v) : u = v := by
  rcases h with ⟨s, rfl⟩ | ⟨s, R, b, mk, r, m, h⟩ <;> rcases h2 with ⟨s2, rfl⟩ | ⟨s2, R2, b2, mk2, r2, m2, h2⟩
  · rfl
  · exact absurd s s2
  · exact absurd s2 s
  · obtain ⟨rfl, rfl⟩ := row_uniqB r r2
    obtain rfl := mark_uniqB m m2
    rcases h with ⟨h, rfl⟩ | ⟨h, k, t, rfl⟩ <;> rcases h2 with ⟨h2, rfl⟩ | ⟨h2, k2, t2, rfl⟩
    · rfl
    · exact absurd h2 h
    · exact absurd h h2
    · rw [title_uniq t t2]
theorem HdIs.shape {v : Value} (h : HdIs f n v) : ∃ t a b c d q x, v = .tuple #[.agg #[.string t, .int .i64 a, .int .i64 b, .int .i64 c, .int .i64 d, .bool q], .int .i64 x] := by
  rcases h with ⟨s, rfl⟩ | ⟨s, R, b, mk, r, m, ⟨h, rfl⟩ | ⟨h, k, t, rfl⟩⟩
  · exact ⟨_, _, _, _, _, _, _, rfl⟩
  · exact ⟨_, _, _, _, _, _, _, rfl⟩
  · exact ⟨_, _, _, _, _, _, _, rfl⟩
theorem CheckAns.is {e : Ending} (hs : ¬ (n < 32768 ∨ 2097152 < n)) (h : CheckAns W f n e w') : ∃ v, e = .returned v ∧ HdIs f n v ∧ Up W w' := by
  obtain ⟨R, b, mk, r, m, u, h⟩ := h
  rcases h with ⟨h, rfl⟩ | ⟨h, k, t, rfl⟩
  · exact ⟨_, rfl, Or.inr ⟨hs, R, b, mk, r, m, Or.inl ⟨h, rfl⟩⟩, u⟩
  · exact ⟨_, rfl, Or.inr ⟨hs, R, b, mk, r, m, Or.inr ⟨h, k, t, rfl⟩⟩, u⟩
theorem check_all {c : Nat} (hT : Tb W) (h : By W g n f) (hc : n ≤ c) (hm : c ≤ 9223372036854775807) (h8 : ∀ k, 0 ≤ f k ∧ f k ≤ 255) : Calls Tryd.prog 13 #[.slice (some ⟨g, 0, none⟩) n c] W fun e w' => ∃ v, e = .returned v ∧ HdIs f n v ∧ Up W w' := by
  by_cases hs : n < 32768 ∨ 2097152 < n
  · exact (check_short hc hm hs).mono fun e w' ⟨q1, q2⟩ => ⟨_, q1, Or.inl ⟨hs, rfl⟩, q2⟩
  · exact (check_any hT h (by omega) (by omega) hc hm h8).mono fun e w' q => q.is hs
theorem checkR_all {c : Nat} (h : By W g n f) (hc : n ≤ c) (hm : c ≤ 9223372036854775807) (h8 : ∀ k, 0 ≤ f k ∧ f k ≤ 255) : Calls Tryd.prog 29 #[.slice (some ⟨g, 0, none⟩) n c] W fun e w' => ∃ v, e = .returned v ∧ HdIs f n v ∧ Up W w' := by
  by_cases hs : n < 32768 ∨ 2097152 < n
  · exact (checkR_short hc hm hs).mono fun e w' ⟨q1, q2⟩ => ⟨_, q1, Or.inl ⟨hs, rfl⟩, q2⟩
  · exact (checkR_any h (by omega) (by omega) hc hm h8).mono fun e w' q => q.is hs
set_option maxRecDepth 100000 in
theorem sameHead_yes {T : ByteArray} {a b c d : Int} {q : Bool} (w : World) : Calls Tryd.prog 16 #[.agg #[.string T, .int .i64 a, .int .i64 b, .int .i64 c, .int .i64 d, .bool q], .agg #[.string T, .int .i64 a, .int .i64 b, .int .i64 c, .int .i64 d, .bool q]] w fun e w' => e = .returned (.bool true) ∧ Up w w' := by
  have z1 : (a == a) = true := by simp
  have z2 : (b == b) = true := by simp
  have z3 : (c == c) = true := by simp
  have z4 : (d == d) = true := by simp
  have z5 : (q == q) = true := by simp
  have HU : Hid (∀ x y, Up w ((w.alloc x).alloc y)) := fun x y => ((Up.refl w).alloc _).alloc _
  go_enter Tryd.func16, Tryd.ntmps16
  go_wp2_with fail
  go_ret
  exact ⟨by first | rfl | (simp; done), HU.out _ _⟩
set_option maxRecDepth 100000 in
set_option maxHeartbeats 2000000 in
theorem checked_any (hT : Tb W) (h : By W g n f) (h8 : ∀ k, 0 ≤ f k ∧ f k ≤ 255) (n1 : 32468 ≤ n) (n2 : n ≤ 2097451) : Calls Tryd.prog 11 #[.slice (some ⟨g, 0, none⟩) n n] W fun e w' => e = .returned (.bool true) ∧ Up W w' := by
  have HT : Hid (Tb W) := hT
  have HB : Hid (∀ w, Up W w → By w g n f) := fun w u => h.up u
  have H8 : Hid (∀ k, 0 ≤ f k ∧ f k ≤ 255) := h8
  have HLe : Hid (Calls Tryd.prog 28 #[.slice (some ⟨g, 0, none⟩) n n] W fun e w' => ∃ l, e = .returned (.slice (some ⟨l, 0, none⟩) (n + 8) (n + 8)) ∧ W.heap.size ≤ l ∧ By w' l (n + 8) (lentF n f) ∧ Up W w') := lent_any h (by omega) (by omega) (Nat.le_refl _) (by omega)
  have hgl := h.lt
  clear hT h h8
  go_enter Tryd.func11, Tryd.ntmps11
  go_wp2_with fail
  refine Calls.mono HLe.out ?_
  rintro e w1 ⟨l, rfl, hl, hb, u1⟩
  obtain ⟨M, hM⟩ : ∃ M : Nat, M = n + 8 := ⟨_, rfl⟩
  have HMe : Hid (M = n + 8) := hM
  have eM : (n : Int) ≤ (M : Int) := by omega
  have HL1 : Hid (By w1 l (n + 8) (lentF n f) ∧ Up W w1 ∧ W.heap.size ≤ l) := ⟨hb, u1, hl⟩
  have m9 : M ≤ 9223372036854775807 := by omega
  have mn : n ≤ M := by omega
  rw [← hM]
  clear hb u1 hl hM HLe
  have HCk : Hid (Calls Tryd.prog 13 #[.slice (some ⟨l, 0, none⟩) n M] w1 fun e w' => ∃ v, e = .returned v ∧ HdIs f n v ∧ Up w1 w') := by
    refine check_all (HT.out.up HL1.out.2.1) ?_ mn m9 H8.out
    obtain ⟨cs, ty, q1, q2, q3⟩ := HL1.out.1.row
    exact ⟨cs, ty, q1, by omega, fun k hk => by rw [q3 k (by omega)]; unfold lentF; rw [if_pos hk]⟩
  go_wp2_with fail
  refine Calls.mono HCk.out ?_
  rintro e w2 ⟨v, rfl, hv, u2⟩
  obtain ⟨t, a, b, c, d, q, x, rfl⟩ := hv.shape
  have HV : Hid (HdIs f n (.tuple #[.agg #[.string t, .int .i64 a, .int .i64 b, .int .i64 c, .int .i64 d, .bool q], .int .i64 x])) := hv
  have HL2 : Hid (By w2 l (n + 8) (lentF n f) ∧ Up W w2) := ⟨HL1.out.1.up u2, HL1.out.2.1.trans u2⟩
  have HLl : Hid (W.heap.size ≤ l) := HL1.out.2.2
  clear hv u2 HL1 HCk
  have HR : Hid (∀ w, Up W w → Calls Tryd.prog 29 #[.slice (some ⟨g, 0, none⟩) n n] w fun e w' => e = .returned (.tuple #[.agg #[.string t, .int .i64 a, .int .i64 b, .int .i64 c, .int .i64 d, .bool q], .int .i64 x]) ∧ Up w w') := fun w u => (checkR_all (HB.out w u) (Nat.le_refl _) (by omega) H8.out).mono fun e w' ⟨v', q1, q2, q3⟩ => ⟨by rw [q1, q2.uniq HV.out], q3⟩
  go_wp2_with fail
  refine Calls.mono (HR.out _ (HL2.out.2.alloc _)) ?_
  rintro e w3 ⟨rfl, u3⟩
  have HX3 : Hid (w3.heap[w2.heap.size]? = some (.cells #[.string t, .int .i64 a, .int .i64 b, .int .i64 c, .int .i64 d, .bool q] 30 (0, 0)) ∧ By w3 l (n + 8) (lentF n f) ∧ Up W w3) := ⟨(u3.block _ (heap_at (heap_alloc_new w2 _))).trans (heap_alloc_new w2 _), (HL2.out.1.up ((Up.refl w2).alloc _)).up u3, (HL2.out.2.alloc _).trans u3⟩
  have hll := HL2.out.1.lt
  clear u3 HR HL2
  generalize w2.heap.size = xb at HX3 hll ⊢
  go_wp2_with fail
  have HX4 : Hid ((w3.alloc (Obj.cells #[.string t, .int .i64 a, .int .i64 b, .int .i64 c, .int .i64 d, .bool q] 30)).heap[w3.heap.size]? = some (.cells #[.string t, .int .i64 a, .int .i64 b, .int .i64 c, .int .i64 d, .bool q] 30 (0, 0))) := heap_alloc_new w3 _
  have HX5 : Hid ((w3.alloc (Obj.cells #[.string t, .int .i64 a, .int .i64 b, .int .i64 c, .int .i64 d, .bool q] 30)).heap[xb]? = some (.cells #[.string t, .int .i64 a, .int .i64 b, .int .i64 c, .int .i64 d, .bool q] 30 (0, 0)) ∧ By (w3.alloc (Obj.cells #[.string t, .int .i64 a, .int .i64 b, .int .i64 c, .int .i64 d, .bool q] 30)) l (n + 8) (lentF n f) ∧ Up W (w3.alloc (Obj.cells #[.string t, .int .i64 a, .int .i64 b, .int .i64 c, .int .i64 d, .bool q] 30))) := ⟨(((Up.refl w3).alloc _).block xb (heap_at HX3.out.1)).trans HX3.out.1, HX3.out.2.1.up ((Up.refl w3).alloc _), HX3.out.2.2.alloc _⟩
  have hl3 := HX3.out.2.1.lt
  clear HX3
  generalize World.alloc w3 _ = w4 at HX4 HX5 ⊢
  generalize w3.heap.size = yb at HX4 hl3 ⊢
  have HBk : Hid (Calls Tryd.prog 30 #[.slice (some ⟨l, 0, none⟩) M M, .slice (some ⟨g, 0, none⟩) n n] w4 fun e w' => e = .returned (.bool true) ∧ Fr l w4 w') := by
    rw [HMe.out]
    exact back_any (HB.out w4 HX5.out.2.2) (by omega) (by omega) (Nat.le_refl _) (by unfold maxLen; omega) H8.out HX5.out.2.1 (by have := HLl.out; omega)
  refine Calls.mono HBk.out ?_
  rintro e w5 ⟨rfl, fr⟩
  have k0 : w5.heap[xb]? = some (.cells #[.string t, .int .i64 a, .int .i64 b, .int .i64 c, .int .i64 d, .bool q] 30 (0, 0)) := (fr.block xb (heap_at HX5.out.1) (by omega)).trans HX5.out.1
  have k1 : w5.heap[yb]? = some (.cells #[.string t, .int .i64 a, .int .i64 b, .int .i64 c, .int .i64 d, .bool q] 30 (0, 0)) := (fr.block yb (heap_at HX4.out) (by omega)).trans HX4.out
  have HU5 : Hid (Up W w5) := Fr.up HX5.out.2.2 HLl.out fr
  have x0 : w5.cell? ⟨xb, 0, none⟩ = some (.string t) := heap_cell k0 rfl
  have x1 : w5.cell? ⟨xb, 1, none⟩ = some (.int .i64 a) := heap_cell k0 rfl
  have x2 : w5.cell? ⟨xb, 2, none⟩ = some (.int .i64 b) := heap_cell k0 rfl
  have x3 : w5.cell? ⟨xb, 3, none⟩ = some (.int .i64 c) := heap_cell k0 rfl
  have x4 : w5.cell? ⟨xb, 4, none⟩ = some (.int .i64 d) := heap_cell k0 rfl
  have x5 : w5.cell? ⟨xb, 5, none⟩ = some (.bool q) := heap_cell k0 rfl
  have y0 : w5.cell? ⟨yb, 0, none⟩ = some (.string t) := heap_cell k1 rfl
  have y1 : w5.cell? ⟨yb, 1, none⟩ = some (.int .i64 a) := heap_cell k1 rfl
  have y2 : w5.cell? ⟨yb, 2, none⟩ = some (.int .i64 b) := heap_cell k1 rfl
  have y3 : w5.cell? ⟨yb, 3, none⟩ = some (.int .i64 c) := heap_cell k1 rfl
  have y4 : w5.cell? ⟨yb, 4, none⟩ = some (.int .i64 d) := heap_cell k1 rfl
  have y5 : w5.cell? ⟨yb, 5, none⟩ = some (.bool q) := heap_cell k1 rfl
  have zx : (x == x) = true := by simp
  have HSh : Hid (∀ w, Calls Tryd.prog 16 #[.agg #[.string t, .int .i64 a, .int .i64 b, .int .i64 c, .int .i64 d, .bool q], .agg #[.string t, .int .i64 a, .int .i64 b, .int .i64 c, .int .i64 d, .bool q]] w fun e w' => e = .returned (.bool true) ∧ Up w w') := fun w => sameHead_yes w
  clear fr k0 k1 HX4 HX5 HBk
  go_wp2_with fail
  refine Calls.mono (HSh.out _) ?_
  rintro e w6 ⟨rfl, u6⟩
  have HU6 : Hid (Up W w6) := HU5.out.trans u6
  clear u6 HU5
  go_wp2_with fail
  go_ret
  exact ⟨by first | rfl | (simp; done), HU6.out⟩
end Go.Proofs.YtpiboooiofjigaaDoor
