import Derived.Test.YtojlappgmckokaaDoorXmK
import Derived.Laws.IdiomCopy
import Derived.Test.YtojlappgmckokaaDoorXmJ
import Derived.Test.YtojlappgmckokaaDoorXmC
/- Cart: any list that is lent, and comes back: nil and empty too. -/
namespace Go.Proofs.YtojlappgmckokaaDoor
open Go.Shelf Go.RowKit
set_option linter.unusedVariables false
set_option linter.unusedSimpArgs false
variable {w w' W : World} {n ab ao : Nat} {aa : Option Addr} {f : Nat → Int}
theorem Byts.upC {cap : Nat} (h : Byts W aa ab ao n cap f) (u : Up W w) : Byts w aa ab ao n cap f := ⟨h.lc, h.cm, h.ad, h.u8, fun k hk => cell_up u (h.cell k hk)⟩
theorem mkBig (w : World) (N : Nat) (hN : N ≤ 281474976710656) : (Instr.makeSlice 24 (.int .i64 (N : Int)) (.int .i64 (N : Int))).run Tryd.prog w = .ok (.slice (some ⟨w.heap.size, 0, none⟩) N N) (w.alloc (.cells (madeCells #[.int .u8 0] N) 5)) := by
  have := run_make (P := Tryd.prog) w 24 5 Tryd.t5 (.int .u8 0) Tryd.underlying24 (by kernel_rfl) rfl .i64 .i64 (N : Int) (N : Int) (by omega) (by omega) (by show (1 : Int) * (N : Int) ≤ 281474976710656; omega) (by omega)
  have e1 : (Value.int .u8 0).cells = #[Value.int .u8 0] := rfl
  have e2 : Tryd.t5.size = 1 := rfl
  rw [e1, e2] at this
  simpa using this
set_option maxRecDepth 100000 in
set_option maxHeartbeats 1000000 in
theorem lentB_any {cap : Nat} (h : Byts W aa ab ao n cap f) (hn : n ≤ 140737488355328) : Calls Tryd.prog 28 #[.slice aa n cap] W fun e w' => ∃ l, e = .returned (.slice (some ⟨l, 0, none⟩) (n + 8) (n + 8)) ∧ W.heap.size ≤ l ∧ By w' l (n + 8) (lentF n f) ∧ Up W w' := by
  have HB : Hid (∀ w, Up W w → Byts w aa ab ao n cap f) := fun w u => h.upC u
  have hc : n ≤ cap := h.lc
  have hm : cap ≤ 9223372036854775807 := by have := h.cm; unfold maxLen at this; omega
  clear h
  obtain ⟨M, hM⟩ : ∃ M : Nat, M = n + 8 := ⟨_, rfl⟩
  have HMe : Hid (M = n + 8) := hM
  have eM : (n : Int) + 8 = (M : Int) := by omega
  have hmk : ∀ w : World, (Instr.makeSlice 24 (.int .i64 (M : Int)) (.int .i64 (M : Int))).run Tryd.prog w = .ok (.slice (some ⟨w.heap.size, 0, none⟩) M M) (w.alloc (.cells (madeCells #[.int .u8 0] M) 5)) := fun w => mkBig w M (by omega)
  have HM : Hid (By (W.alloc (.cells (madeCells #[.int .u8 0] M) 5)) W.heap.size M (fun _ => 0) ∧ Up W (W.alloc (.cells (madeCells #[.int .u8 0] M) 5))) := ⟨made_by W M _, (Up.refl W).alloc _⟩
  have HCp : Hid (∀ w, By w W.heap.size M (fun _ => 0) → Up W w → ∀ ty, (Builtin.copy_ #[24, 24] ty #[.slice (some ⟨W.heap.size, 0, none⟩) M M, .slice aa n cap]).run Tryd.prog w = .ok (goInt n) (w.setCells W.heap.size 0 (byL f n))) := fun w hb u ty => by
    by_cases h0 : n = 0
    · subst h0
      exact run_copy_none w 24 24 ty 5 _ _ M M 0 cap Tryd.underlying24 (by kernel_rfl) (Nat.zero_min _)
    · have q := HB.out w u
      rw [q.ad (by omega)]
      exact copy_run (k := n) hb (by omega) (by rw [hM]; exact (Nat.min_eq_left (by omega)).symm) (fun j hj => by rw [Addr.add_lit]; exact q.cell j hj) M cap ty
  rw [← hM]
  clear hM
  go_enter Tryd.func28, Tryd.ntmps28
  go_wp2_with (refine wpList_copy_runI _ rfl _ _ 24 24 rfl _ _ rfl rfl (HCp.out _ HM.out.1 HM.out.2 _) ?_)
  have H2 : Hid (By ((W.alloc (.cells (madeCells #[.int .u8 0] M) 5)).setCells W.heap.size 0 (byL f n)) W.heap.size M (lentTo n f n) ∧ Up W ((W.alloc (.cells (madeCells #[.int .u8 0] M) 5)).setCells W.heap.size 0 (byL f n))) := ⟨(HM.out.1.setCells 0 n f (by have := HMe.out; omega)).congr (fun k _ => lentTo_0 n f k), Fr.up HM.out.2 (Nat.le_refl _) (fr_setCells _ _ _ _)⟩
  try simp only [Act.put, goInt, List.setIfInBounds_toArray, List.set_cons_zero, List.set_cons_succ]
  generalize World.setCells _ W.heap.size 0 (byL f n) = w2 at H2 ⊢
  generalize hg : W.heap.size = l at H2 ⊢
  have HG : Hid (W.heap.size ≤ l) := Nat.le_of_eq hg
  clear hg HM HCp hmk
  go_loopw [4] (fun I wr => ∃ i : Nat, n ≤ i ∧ i ≤ M ∧ I = .int .i64 (i : Int) ∧ Hid (By wr l M (lentTo n f i) ∧ Up W wr)) (fun I _ => M - (intOf I).toNat)
  case atStart => exact ⟨n, Nat.le_refl _, by have := HMe.out; omega, rfl, H2⟩
  case round =>
    clear H2
    obtain ⟨i, hi, hi2, rfl, M0⟩ := hrel
    by_cases hlt : i < M
    · have e1 : (i : Int) < (M : Int) := by omega
      have kc := M0.out.1.cell i hlt
      have kf := M0.out.1.fz i
      have HS : Hid (By (wr.setCell ⟨l, i, none⟩ (.int .u8 171)) l M (lentTo n f (i + 1)) ∧ Up W (wr.setCell ⟨l, i, none⟩ (.int .u8 171))) := ⟨(M0.out.1.set i hlt 171).congr (fun k _ => lentTo_set n f i hi k), M0.out.2.setCell HG.out _⟩
      clear M0
      go_wp2_with fail
      go_round
      case rel => exact ⟨i + 1, by omega, by omega, by go_num, HS⟩
      case measure => simp [intOf]; omega
    · have e1 : ¬ (i : Int) < (M : Int) := by omega
      have M1 : Hid (By wr l M (lentF n f) ∧ Up W wr) := ⟨M0.out.1.congr (fun k hk => lentTo_F n f i k (by have := HMe.out; omega) (by have := HMe.out; omega)), M0.out.2⟩
      clear M0
      go_wp2_with fail
      go_ret
      exact ⟨l, by first | rfl | (simp; done), HG.out, M1.out⟩
set_option maxRecDepth 100000 in
set_option maxHeartbeats 1000000 in
theorem backB_any {cap l : Nat} (h : Byts W aa ab ao n cap f) (hn : n ≤ 140737488355328) (hL : By W l (n + 8) (lentF n f)) : Calls Tryd.prog 30 #[.slice (some ⟨l, 0, none⟩) (n + 8) (n + 8), .slice aa n cap] W fun e w' => e = .returned (.bool true) ∧ Fr l W w' := by
  obtain ⟨M, hM⟩ : ∃ M : Nat, M = n + 8 := ⟨_, rfl⟩
  have HMe : Hid (M = n + 8) := hM
  have eM : (n : Int) ≤ (M : Int) := by omega
  have h8 := h.u8
  have hc := h.lc
  have hm := h.cm
  have c9 : cap ≤ 9223372036854775807 := by unfold maxLen at hm; omega
  have HSm : Hid (Calls Tryd.prog 21 #[.slice (some ⟨l, 0, none⟩) n M, .slice aa n cap] W fun e w' => e = .returned (.bool true) ∧ Up W w') := by
    have hl : By W l n (lentF n f) := by
      obtain ⟨cs, ty, q1, q2, q3⟩ := hL.row
      exact ⟨cs, ty, q1, by omega, fun k hk => q3 k (by omega)⟩
    refine same_yes (hl.byts (by omega) (by unfold maxLen; omega) (fun k => ?_)) h (fun k hk => by unfold lentF; rw [if_pos hk])
    unfold lentF
    split
    · exact h8 k
    · decide
  have H0 : Hid (∀ w, Up W w → By w l M (backTo (lentF n f) 0) ∧ Fr l W w) := fun w u => ⟨by rw [hM]; exact (hL.up u).congr (fun k _ => by unfold backTo; rw [if_neg (by omega)]), Fr.ofUp u⟩
  rw [← hM]
  have m9 : M ≤ 9223372036854775807 := by omega
  clear h hL h8 hM hm
  go_enter Tryd.func30, Tryd.ntmps30
  go_wp2_with fail
  refine Calls.mono HSm.out ?_
  rintro e w2 ⟨rfl, u2⟩
  have H2 : Hid _ := H0.out w2 u2
  clear u2 H0 HSm
  go_wp2_with fail
  go_loopw [5, 6] (fun B I wr => ∃ i : Nat, i ≤ M ∧ B = .bool true ∧ I = .int .i64 (i : Int) ∧ Hid (By wr l M (backTo (lentF n f) i) ∧ Fr l W wr)) (fun _ I _ => M - (intOf I).toNat)
  case atStart => exact ⟨0, Nat.zero_le _, rfl, rfl, H2⟩
  case round =>
    clear H2
    obtain ⟨i, hi, rfl, rfl, M0⟩ := hrel
    by_cases hlt : i < M
    · have e1 : (i : Int) < (M : Int) := by omega
      have kc := M0.out.1.cell i hlt
      have kf := M0.out.1.fz i
      have HS : Hid (By (wr.setCell ⟨l, i, none⟩ (.int .u8 85)) l M (backTo (lentF n f) (i + 1)) ∧ Fr l W (wr.setCell ⟨l, i, none⟩ (.int .u8 85))) := ⟨(M0.out.1.set i hlt 85).congr (fun k _ => backTo_set _ i k), M0.out.2.setCell⟩
      have eb : backTo (lentF n f) i i = lentF n f i := by unfold backTo; rw [if_neg (by omega)]
      rw [eb] at kc
      by_cases hc' : i < n
      · have e4 : (i : Int) < (n : Int) := by omega
        clear M0 eb
        generalize lentF n f i = xx at kc
        go_wp2_with fail
        go_round
        case rel => exact ⟨i + 1, by omega, by first | rfl | (simp; done), by go_num, HS⟩
        case measure => simp [intOf]; omega
      · have e4 : ¬ (i : Int) < (n : Int) := by omega
        have ef : lentF n f i = 171 := if_neg hc'
        rw [ef] at kc
        clear M0 eb ef
        go_wp2_with fail
        go_round
        case rel => exact ⟨i + 1, by omega, by first | rfl | (simp; done), by go_num, HS⟩
        case measure => simp [intOf]; omega
    · have e1 : ¬ (i : Int) < (M : Int) := by omega
      go_wp2_with fail
      go_ret
      exact ⟨by first | rfl | (simp; done), M0.out.2⟩
end Go.Proofs.YtojlappgmckokaaDoor
/- Cart: Check of the program and the document's answer the same. -/
namespace Go.Proofs.YtojlappgmckokaaDoor
open Go.Shelf Go.RowKit
set_option linter.unusedVariables false
set_option linter.unusedSimpArgs false
variable {w w' W : World} {g n : Nat} {f : Nat → Int}
/-- what Check must answer of these bytes -/
def HdIs (f : Nat → Int) (n : Nat) (v : Value) : Prop := ((n < 32768 ∨ 2097152 < n) ∧ v = .tuple #[.agg zHead, .int .i64 41]) ∨ (¬ (n < 32768 ∨ 2097152 < n) ∧ ∃ R b mk, RowIs (f 327).toNat R b ∧ MarkIs f mk ∧ ((faultI mk f R b n ≠ 0 ∧ v = .tuple #[.agg zHead, .int .i64 (faultI mk f R b n)]) ∨ (faultI mk f R b n = 0 ∧ ∃ m, TitleIs f m ∧ v = .tuple #[.agg (headC (strF f 308 m) R (f 328).toNat (f 329).toNat), .int .i64 0])))
theorem title_uniq {m k : Nat} (h : TitleIs f m) (h2 : TitleIs f k) : m = k := by
  obtain ⟨a1, a2, a3⟩ := h
  obtain ⟨b1, b2, b3⟩ := h2
  rcases Nat.lt_trichotomy m k with hlt | rfl | hlt
  · exact absurd (a3 (by omega)) (b2 m hlt)
  · rfl
  · exact absurd (b3 (by omega)) (a2 k hlt)
theorem mark_uniqB {a b : Bool} (h : MarkIs f a) (h2 : MarkIs f b) : a = b := by
  rcases h with ⟨rfl, h⟩ | ⟨rfl, i, hi, h⟩ <;> rcases h2 with ⟨rfl, h2⟩ | ⟨rfl, j, hj, h2⟩
  · rfl
  · exact absurd (h j hj) h2
  · exact absurd (h2 i hi) h
  · rfl
theorem HdIs.uniq {u v : Value} (h : HdIs f n u) (h2 : HdIs f n v) : u = v := by
  rcases h with ⟨s, rfl⟩ | ⟨s, R, b, mk, r, m, h⟩ <;> rcases h2 with ⟨s2, rfl⟩ | ⟨s2, R2, b2, mk2, r2, m2, h2⟩
  · rfl
  · exact absurd s s2
  · exact absurd s2 s
  · obtain ⟨rfl, rfl⟩ := row_uniqB r r2
    obtain rfl := mark_uniqB m m2
    rcases h with ⟨h, rfl⟩ | ⟨h, k, t, rfl⟩ <;> rcases h2 with ⟨h2, rfl⟩ | ⟨h2, k2, t2, rfl⟩
    · rfl
    · exact absurd h2 h
    · exact absurd h h2
    · rw [title_uniq t t2]
theorem HdIs.shape {v : Value} (h : HdIs f n v) : ∃ t a b c d q x, v = .tuple #[.agg #[.string t, .int .i64 a, .int .i64 b, .int .i64 c, .int .i64 d, .bool q], .int .i64 x] := by
  rcases h with ⟨s, rfl⟩ | ⟨s, R, b, mk, r, m, ⟨h, rfl⟩ | ⟨h, k, t, rfl⟩⟩
  · exact ⟨_, _, _, _, _, _, _, rfl⟩
  · exact ⟨_, _, _, _, _, _, _, rfl⟩
  · exact ⟨_, _, _, _, _, _, _, rfl⟩
theorem CheckAns.is {e : Ending} (hs : ¬ (n < 32768 ∨ 2097152 < n)) (h : CheckAns W f n e w') : ∃ v, e = .returned v ∧ HdIs f n v ∧ Up W w' := by
  obtain ⟨R, b, mk, r, m, u, h⟩ := h
  rcases h with ⟨h, rfl⟩ | ⟨h, k, t, rfl⟩
  · exact ⟨_, rfl, Or.inr ⟨hs, R, b, mk, r, m, Or.inl ⟨h, rfl⟩⟩, u⟩
  · exact ⟨_, rfl, Or.inr ⟨hs, R, b, mk, r, m, Or.inr ⟨h, k, t, rfl⟩⟩, u⟩
theorem check_all {c : Nat} (hT : Tb W) (h : By W g n f) (hc : n ≤ c) (hm : c ≤ 9223372036854775807) (h8 : ∀ k, 0 ≤ f k ∧ f k ≤ 255) : Calls Tryd.prog 13 #[.slice (some ⟨g, 0, none⟩) n c] W fun e w' => ∃ v, e = .returned v ∧ HdIs f n v ∧ Up W w' := by
  by_cases hs : n < 32768 ∨ 2097152 < n
  · exact (check_short hc hm hs).mono fun e w' ⟨q1, q2⟩ => ⟨_, q1, Or.inl ⟨hs, rfl⟩, q2⟩
  · exact (check_any hT h (by omega) (by omega) hc hm h8).mono fun e w' q => q.is hs
theorem checkR_all {c : Nat} (h : By W g n f) (hc : n ≤ c) (hm : c ≤ 9223372036854775807) (h8 : ∀ k, 0 ≤ f k ∧ f k ≤ 255) : Calls Tryd.prog 29 #[.slice (some ⟨g, 0, none⟩) n c] W fun e w' => ∃ v, e = .returned v ∧ HdIs f n v ∧ Up W w' := by
  by_cases hs : n < 32768 ∨ 2097152 < n
  · exact (checkR_short hc hm hs).mono fun e w' ⟨q1, q2⟩ => ⟨_, q1, Or.inl ⟨hs, rfl⟩, q2⟩
  · exact (checkR_any h (by omega) (by omega) hc hm h8).mono fun e w' q => q.is hs
set_option maxRecDepth 100000 in
theorem sameHead_yes {T : ByteArray} {a b c d : Int} {q : Bool} (w : World) : Calls Tryd.prog 16 #[.agg #[.string T, .int .i64 a, .int .i64 b, .int .i64 c, .int .i64 d, .bool q], .agg #[.string T, .int .i64 a, .int .i64 b, .int .i64 c, .int .i64 d, .bool q]] w fun e w' => e = .returned (.bool true) ∧ Up w w' := by
  have z1 : (a == a) = true := by simp
  have z2 : (b == b) = true := by simp
  have z3 : (c == c) = true := by simp
  have z4 : (d == d) = true := by simp
  have z5 : (q == q) = true := by simp
  have HU : Hid (∀ x y, Up w ((w.alloc x).alloc y)) := fun x y => ((Up.refl w).alloc _).alloc _
  go_enter Tryd.func16, Tryd.ntmps16
  go_wp2_with fail
  go_ret
  exact ⟨by first | rfl | (simp; done), HU.out _ _⟩
set_option maxRecDepth 100000 in
set_option maxHeartbeats 2000000 in
theorem checked_any (hT : Tb W) (h : By W g n f) (h8 : ∀ k, 0 ≤ f k ∧ f k ≤ 255) (n1 : 32468 ≤ n) (n2 : n ≤ 2097451) : Calls Tryd.prog 11 #[.slice (some ⟨g, 0, none⟩) n n] W fun e w' => e = .returned (.bool true) ∧ Up W w' := by
  have HT : Hid (Tb W) := hT
  have HB : Hid (∀ w, Up W w → By w g n f) := fun w u => h.up u
  have H8 : Hid (∀ k, 0 ≤ f k ∧ f k ≤ 255) := h8
  have HLe : Hid (Calls Tryd.prog 28 #[.slice (some ⟨g, 0, none⟩) n n] W fun e w' => ∃ l, e = .returned (.slice (some ⟨l, 0, none⟩) (n + 8) (n + 8)) ∧ W.heap.size ≤ l ∧ By w' l (n + 8) (lentF n f) ∧ Up W w') := lent_any h (by omega) (by omega) (Nat.le_refl _) (by omega)
  have hgl := h.lt
  clear hT h h8
  go_enter Tryd.func11, Tryd.ntmps11
  go_wp2_with fail
  refine Calls.mono HLe.out ?_
  rintro e w1 ⟨l, rfl, hl, hb, u1⟩
  obtain ⟨M, hM⟩ : ∃ M : Nat, M = n + 8 := ⟨_, rfl⟩
  have HMe : Hid (M = n + 8) := hM
  have eM : (n : Int) ≤ (M : Int) := by omega
  have HL1 : Hid (By w1 l (n + 8) (lentF n f) ∧ Up W w1 ∧ W.heap.size ≤ l) := ⟨hb, u1, hl⟩
  have m9 : M ≤ 9223372036854775807 := by omega
  have mn : n ≤ M := by omega
  rw [← hM]
  clear hb u1 hl hM HLe
  have HCk : Hid (Calls Tryd.prog 13 #[.slice (some ⟨l, 0, none⟩) n M] w1 fun e w' => ∃ v, e = .returned v ∧ HdIs f n v ∧ Up w1 w') := by
    refine check_all (HT.out.up HL1.out.2.1) ?_ mn m9 H8.out
    obtain ⟨cs, ty, q1, q2, q3⟩ := HL1.out.1.row
    exact ⟨cs, ty, q1, by omega, fun k hk => by rw [q3 k (by omega)]; unfold lentF; rw [if_pos hk]⟩
  go_wp2_with fail
  refine Calls.mono HCk.out ?_
  rintro e w2 ⟨v, rfl, hv, u2⟩
  obtain ⟨t, a, b, c, d, q, x, rfl⟩ := hv.shape
  have HV : Hid (HdIs f n (.tuple #[.agg #[.string t, .int .i64 a, .int .i64 b, .int .i64 c, .int .i64 d, .bool q], .int .i64 x])) := hv
  have HL2 : Hid (By w2 l (n + 8) (lentF n f) ∧ Up W w2) := ⟨HL1.out.1.up u2, HL1.out.2.1.trans u2⟩
  have HLl : Hid (W.heap.size ≤ l) := HL1.out.2.2
  clear hv u2 HL1 HCk
  have HR : Hid (∀ w, Up W w → Calls Tryd.prog 29 #[.slice (some ⟨g, 0, none⟩) n n] w fun e w' => e = .returned (.tuple #[.agg #[.string t, .int .i64 a, .int .i64 b, .int .i64 c, .int .i64 d, .bool q], .int .i64 x]) ∧ Up w w') := fun w u => (checkR_all (HB.out w u) (Nat.le_refl _) (by omega) H8.out).mono fun e w' ⟨v', q1, q2, q3⟩ => ⟨by rw [q1, q2.uniq HV.out], q3⟩
  go_wp2_with fail
  refine Calls.mono (HR.out _ (HL2.out.2.alloc _)) ?_
  rintro e w3 ⟨rfl, u3⟩
  have HX3 : Hid (w3.heap[w2.heap.size]? = some (.cells #[.string t, .int .i64 a, .int .i64 b, .int .i64 c, .int .i64 d, .bool q] 30 (0, 0)) ∧ By w3 l (n + 8) (lentF n f) ∧ Up W w3) := ⟨(u3.block _ (heap_at (heap_alloc_new w2 _))).trans (heap_alloc_new w2 _), (HL2.out.1.up ((Up.refl w2).alloc _)).up u3, (HL2.out.2.alloc _).trans u3⟩
  have hll := HL2.out.1.lt
  clear u3 HR HL2
  generalize w2.heap.size = xb at HX3 hll ⊢
  go_wp2_with fail
  have HX4 : Hid ((w3.alloc (Obj.cells #[.string t, .int .i64 a, .int .i64 b, .int .i64 c, .int .i64 d, .bool q] 30)).heap[w3.heap.size]? = some (.cells #[.string t, .int .i64 a, .int .i64 b, .int .i64 c, .int .i64 d, .bool q] 30 (0, 0))) := heap_alloc_new w3 _
  have HX5 : Hid ((w3.alloc (Obj.cells #[.string t, .int .i64 a, .int .i64 b, .int .i64 c, .int .i64 d, .bool q] 30)).heap[xb]? = some (.cells #[.string t, .int .i64 a, .int .i64 b, .int .i64 c, .int .i64 d, .bool q] 30 (0, 0)) ∧ By (w3.alloc (Obj.cells #[.string t, .int .i64 a, .int .i64 b, .int .i64 c, .int .i64 d, .bool q] 30)) l (n + 8) (lentF n f) ∧ Up W (w3.alloc (Obj.cells #[.string t, .int .i64 a, .int .i64 b, .int .i64 c, .int .i64 d, .bool q] 30))) := ⟨(((Up.refl w3).alloc _).block xb (heap_at HX3.out.1)).trans HX3.out.1, HX3.out.2.1.up ((Up.refl w3).alloc _), HX3.out.2.2.alloc _⟩
  have hl3 := HX3.out.2.1.lt
  clear HX3
  generalize World.alloc w3 _ = w4 at HX4 HX5 ⊢
  generalize w3.heap.size = yb at HX4 hl3 ⊢
  have HBk : Hid (Calls Tryd.prog 30 #[.slice (some ⟨l, 0, none⟩) M M, .slice (some ⟨g, 0, none⟩) n n] w4 fun e w' => e = .returned (.bool true) ∧ Fr l w4 w') := by
    rw [HMe.out]
    exact back_any (HB.out w4 HX5.out.2.2) (by omega) (by omega) (Nat.le_refl _) (by unfold maxLen; omega) H8.out HX5.out.2.1 (by have := HLl.out; omega)
  refine Calls.mono HBk.out ?_
  rintro e w5 ⟨rfl, fr⟩
  have k0 : w5.heap[xb]? = some (.cells #[.string t, .int .i64 a, .int .i64 b, .int .i64 c, .int .i64 d, .bool q] 30 (0, 0)) := (fr.block xb (heap_at HX5.out.1) (by omega)).trans HX5.out.1
  have k1 : w5.heap[yb]? = some (.cells #[.string t, .int .i64 a, .int .i64 b, .int .i64 c, .int .i64 d, .bool q] 30 (0, 0)) := (fr.block yb (heap_at HX4.out) (by omega)).trans HX4.out
  have HU5 : Hid (Up W w5) := Fr.up HX5.out.2.2 HLl.out fr
  have x0 : w5.cell? ⟨xb, 0, none⟩ = some (.string t) := heap_cell k0 rfl
  have x1 : w5.cell? ⟨xb, 1, none⟩ = some (.int .i64 a) := heap_cell k0 rfl
  have x2 : w5.cell? ⟨xb, 2, none⟩ = some (.int .i64 b) := heap_cell k0 rfl
  have x3 : w5.cell? ⟨xb, 3, none⟩ = some (.int .i64 c) := heap_cell k0 rfl
  have x4 : w5.cell? ⟨xb, 4, none⟩ = some (.int .i64 d) := heap_cell k0 rfl
  have x5 : w5.cell? ⟨xb, 5, none⟩ = some (.bool q) := heap_cell k0 rfl
  have y0 : w5.cell? ⟨yb, 0, none⟩ = some (.string t) := heap_cell k1 rfl
  have y1 : w5.cell? ⟨yb, 1, none⟩ = some (.int .i64 a) := heap_cell k1 rfl
  have y2 : w5.cell? ⟨yb, 2, none⟩ = some (.int .i64 b) := heap_cell k1 rfl
  have y3 : w5.cell? ⟨yb, 3, none⟩ = some (.int .i64 c) := heap_cell k1 rfl
  have y4 : w5.cell? ⟨yb, 4, none⟩ = some (.int .i64 d) := heap_cell k1 rfl
  have y5 : w5.cell? ⟨yb, 5, none⟩ = some (.bool q) := heap_cell k1 rfl
  have zx : (x == x) = true := by simp
  have HSh : Hid (∀ w, Calls Tryd.prog 16 #[.agg #[.string t, .int .i64 a, .int .i64 b, .int .i64 c, .int .i64 d, .bool q], .agg #[.string t, .int .i64 a, .int .i64 b, .int .i64 c, .int .i64 d, .bool q]] w fun e w' => e = .returned (.bool true) ∧ Up w w') := fun w => sameHead_yes w
  clear fr k0 k1 HX4 HX5 HBk
  go_wp2_with fail
  refine Calls.mono (HSh.out _) ?_
  rintro e w6 ⟨rfl, u6⟩
  have HU6 : Hid (Up W w6) := HU5.out.trans u6
  clear u6 HU5
  go_wp2_with fail
  go_ret
  exact ⟨by first | rfl | (simp; done), HU6.out⟩
end Go.Proofs.YtojlappgmckokaaDoor
/- Cart: New, of the program and of the document: the same answer. -/
namespace Go.Proofs.YtojlappgmckokaaDoor
open Go.Shelf Go.RowKit
set_option linter.unusedVariables false
set_option linter.unusedSimpArgs false
variable {w w' W : World} {g n : Nat} {f : Nat → Int}
set_option maxRecDepth 100000 in
theorem newR_short {c : Nat} {a sa : Option Addr} {sn sc : Nat} (hc : n ≤ c) (hm : c ≤ 9223372036854775807) (h : n < 32768 ∨ 2097152 < n) : Calls Tryd.prog 47 #[.slice a n c, .slice sa sn sc] W fun e w' => e = .returned (.tuple #[.pointer none, .int .i64 41]) ∧ Up W w' := by
  have HC : Hid _ := checkR_short (W := W) (a := a) hc hm h
  go_enter Tryd.func47, Tryd.ntmps47
  go_wp2_with fail
  refine Calls.mono HC.out ?_
  rintro e w2 ⟨rfl, u2⟩
  have HU2 : Hid (Up W w2) := u2
  clear u2 HC
  unfold zHead
  go_wp2_with fail
  go_ret2
  exact ⟨by first | rfl | (simp; done), by first | exact HU2.out.alloc _ | exact HU2.out⟩
/-- what New of bytes and a save tells, and what it makes -/
def Wants (f : Nat → Int) (n sn : Nat) (sf : Nat → Int) (x : Int) (oc : Option Ct) : Prop :=
  (¬ (32768 ≤ n ∧ n ≤ 2097152) ∧ x = 41 ∧ oc = none) ∨ ((32768 ≤ n ∧ n ≤ 2097152) ∧ ∃ R b mk, RowIs (f 327).toNat R b ∧ MarkIs f mk ∧ ((faultI mk f R b n ≠ 0 ∧ x = faultI mk f R b n ∧ oc = none) ∨ (faultI mk f R b n = 0 ∧ 1 ≤ sn ∧ ¬ SaveFits R (ramN R (f 329).toNat) sn sf ∧ x = 48 ∧ oc = none) ∨ (faultI mk f R b n = 0 ∧ (1 ≤ sn → SaveFits R (ramN R (f 329).toNat) sn sf) ∧ x = 0 ∧ ∃ m, TitleIs f m ∧ oc = some (ctOf f n m R sn sf))))
theorem Wants.uniq {sn : Nat} {sf : Nat → Int} {x y : Int} {o p : Option Ct} (h : Wants f n sn sf x o) (k : Wants f n sn sf y p) : x = y ∧ o = p := by
  rcases h with ⟨h0, rfl, rfl⟩ | ⟨h0, R, b, mk, r1, m1, h⟩ <;> rcases k with ⟨k0, rfl, rfl⟩ | ⟨k0, S, c, mk2, r2, m2, k⟩
  · exact ⟨rfl, rfl⟩
  · exact absurd k0 h0
  · exact absurd h0 k0
  · obtain ⟨rfl, rfl⟩ := row_uniq r1 r2
    obtain rfl := mark_uniq m1 m2
    rcases h with ⟨h1, rfl, rfl⟩ | ⟨h1, h2, h3, rfl, rfl⟩ | ⟨h1, h2, rfl, m, t1, rfl⟩ <;> rcases k with ⟨k1, rfl, rfl⟩ | ⟨k1, k2, k3, rfl, rfl⟩ | ⟨k1, k2, rfl, m', t2, rfl⟩
    · exact ⟨rfl, rfl⟩
    · exact absurd k1 h1
    · exact absurd k1 h1
    · exact absurd h1 k1
    · exact ⟨rfl, rfl⟩
    · exact absurd (k2 h2) h3
    · exact absurd h1 k1
    · exact absurd (h2 k2) k3
    · obtain rfl := title_uniq t1 t2
      exact ⟨rfl, rfl⟩
theorem newP_all {c sl sn sc : Nat} {sf : Nat → Int} (hS : 1 ≤ sn → By W sl sn sf) (hsc : sn ≤ sc) (hsm : sc ≤ maxLen) (s8 : ∀ k, 0 ≤ sf k ∧ sf k ≤ 255) (hT : Tb W) (h : By W g n f) (hc : n ≤ c) (hm : c ≤ 9223372036854775807) (h8 : ∀ k, 0 ≤ f k ∧ f k ≤ 255) : Calls Tryd.prog 15 #[.slice (some ⟨g, 0, none⟩) n c, .slice (some ⟨sl, 0, none⟩) sn sc] W fun e w' => Up W w' ∧ ∃ x oc, Wants f n sn sf x oc ∧ ((oc = none ∧ x ≠ 0 ∧ e = .returned (.tuple #[.pointer none, .int .i64 x])) ∨ (∃ A C, oc = some C ∧ x = 0 ∧ e = .returned (.tuple #[.pointer (some ⟨A.cb, 0, none⟩), .int .i64 0]) ∧ Cz W.heap.size w'.heap.size A C w')) := by
  by_cases h0 : 32768 ≤ n ∧ n ≤ 2097152
  · refine (newP_any hS hsc hsm s8 hT h h0.1 h0.2 hc hm h8).mono ?_
    rintro e w' ⟨R, b, mk, r1, m1, u, q | ⟨q1, q2, q3, q4⟩ | ⟨q1, q2, m, A, t1, ⟨C, rfl, z⟩, q4⟩⟩
    · exact ⟨u, _, _, Or.inr ⟨h0, R, b, mk, r1, m1, Or.inl ⟨q.1, rfl, rfl⟩⟩, Or.inl ⟨rfl, q.1, q.2⟩⟩
    · exact ⟨u, _, _, Or.inr ⟨h0, R, b, mk, r1, m1, Or.inr (Or.inl ⟨q1, q2, q3, rfl, rfl⟩)⟩, Or.inl ⟨rfl, by decide, q4⟩⟩
    · exact ⟨u, _, _, Or.inr ⟨h0, R, b, mk, r1, m1, Or.inr (Or.inr ⟨q1, q2, rfl, m, t1, rfl⟩)⟩, Or.inr ⟨A, _, rfl, rfl, q4, z⟩⟩
  · exact (new_short hc hm (by omega)).mono fun e w' ⟨q1, q2⟩ => ⟨q2, 41, none, Or.inl ⟨h0, rfl, rfl⟩, Or.inl ⟨rfl, by decide, q1⟩⟩
theorem newR_all {c sn sc sb so : Nat} {sa : Option Addr} {sf : Nat → Int} (hS : Byts W sa sb so sn sc sf) (h : By W g n f) (hc : n ≤ c) (hm : c ≤ 9223372036854775807) (h8 : ∀ k, 0 ≤ f k ∧ f k ≤ 255) : Calls Tryd.prog 47 #[.slice (some ⟨g, 0, none⟩) n c, .slice sa sn sc] W fun e w' => Up W w' ∧ ∃ x oc, Wants f n sn sf x oc ∧ ((oc = none ∧ x ≠ 0 ∧ e = .returned (.tuple #[.pointer none, .int .i64 x])) ∨ (∃ Y C, oc = some C ∧ x = 0 ∧ e = .returned (.tuple #[.pointer (some ⟨Y.yb, 0, none⟩), .int .i64 0]) ∧ RtAt w' Y C ∧ W.heap.size ≤ Y.yb ∧ W.heap.size ≤ Y.rg ∧ W.heap.size ≤ Y.rb)) := by
  by_cases h0 : 32768 ≤ n ∧ n ≤ 2097152
  · refine (newR_any hS h h0.1 h0.2 hc hm h8).mono ?_
    rintro e w' ⟨R, b, mk, r1, m1, u, q | ⟨q1, q2, q3, q4⟩ | ⟨q1, q2, m, Y, t1, ⟨C, rfl, _, z⟩, ⟨b1, b2, b3⟩, q4⟩⟩
    · exact ⟨u, _, _, Or.inr ⟨h0, R, b, mk, r1, m1, Or.inl ⟨q.1, rfl, rfl⟩⟩, Or.inl ⟨rfl, q.1, q.2⟩⟩
    · exact ⟨u, _, _, Or.inr ⟨h0, R, b, mk, r1, m1, Or.inr (Or.inl ⟨q1, q2, q3, rfl, rfl⟩)⟩, Or.inl ⟨rfl, by decide, q4⟩⟩
    · exact ⟨u, _, _, Or.inr ⟨h0, R, b, mk, r1, m1, Or.inr (Or.inr ⟨q1, q2, rfl, m, t1, rfl⟩)⟩, Or.inr ⟨Y, _, rfl, rfl, q4, z, b1, b2, b3⟩⟩
  · exact (newR_short hc hm (by omega)).mono fun e w' ⟨q1, q2⟩ => ⟨q2, 41, none, Or.inl ⟨h0, rfl, rfl⟩, Or.inl ⟨rfl, by decide, q1⟩⟩
end Go.Proofs.YtojlappgmckokaaDoor
/- Cart: the law's pair. -/
namespace Go.Proofs.YtojlappgmckokaaDoor
open Go.Shelf Go.RowKit
set_option linter.unusedVariables false
set_option linter.unusedSimpArgs false
variable {w w' W : World} {g n sn sc sb so : Nat} {sa : Option Addr} {f sf : Nat → Int} {Y : Yd} {C : Ct} {A : Ad}
theorem lent_by {l m : Nat} {h : Nat → Int} (q : By w l (m + 8) (lentF m h)) : By w l m h := by
  obtain ⟨cs, ty, q1, q2, q3⟩ := q.row
  exact ⟨cs, ty, q1, by omega, fun k hk => by rw [q3 k (by omega)]; unfold lentF; rw [if_pos hk]⟩
theorem RtAt.fr {c : Nat} (h : RtAt w Y C) (u : Fr c w w') (h1 : Y.yb ≠ c) (h2 : Y.rg ≠ c) (h3 : Y.rb ≠ c) : RtAt w' Y C := ⟨(u.block _ (heap_at h.blk) h1).trans h.blk, h.rom.fr u h2, h.ram.fr u h3, h.std, h.ok, h.mp, h.nb, h.nc, h.rc, h.rm, h.d1, h.d2, h.d3⟩
theorem Cz.fr {c lo hi : Nat} (h : Cz lo hi A C w) (u : Fr c w w') (hc : c < lo) : Cz lo hi A C w' := h.keep (K := fun k => lo ≤ k) (FK.ofFr u (by omega)) (fun k h1 _ => h1)
/-- a pair that was made -/
structure Prd (W : World) (pb lo hi : Nat) (A : Ad) (Y : Yd) (C : Ct) (w : World) : Prop where
  blk : w.heap[pb]? = some (.cells #[.pointer (some ⟨A.cb, 0, none⟩), .pointer (some ⟨Y.yb, 0, none⟩), .slice none 0 0, .slice none 0 0, .slice none 0 0, .slice none 0 0, .slice none 0 0] 65 (0, 0))
  x : Cz lo hi A C w
  y : RtAt w Y C
  l : W.heap.size ≤ lo
  y1 : hi ≤ Y.yb ∧ Y.yb < pb
  y2 : hi ≤ Y.rg ∧ Y.rg < pb
  y3 : hi ≤ Y.rb ∧ Y.rb < pb
/-- both cartridges, ahead of the pair -/
structure Bth (W : World) (lo hi : Nat) (A : Ad) (Y : Yd) (C : Ct) (w : World) : Prop where
  x : Cz lo hi A C w
  y : RtAt w Y C
  l : W.heap.size ≤ lo
  y1 : hi ≤ Y.yb
  y2 : hi ≤ Y.rg
  y3 : hi ≤ Y.rb
theorem Bth.fr {c lo hi : Nat} (h : Bth W lo hi A Y C w) (u : Fr c w w') (hc : c < lo) : Bth W lo hi A Y C w' := by
  have := h.x.l1; have h1 := h.y1; have h2 := h.y2; have h3 := h.y3
  exact ⟨h.x.fr u hc, h.y.fr u (by omega) (by omega) (by omega), h.l, h1, h2, h3⟩
theorem Bth.pair {lo hi : Nat} (h : Bth W lo hi A Y C w) : Prd W w.heap.size lo hi A Y C (w.alloc (.cells #[.pointer (some ⟨A.cb, 0, none⟩), .pointer (some ⟨Y.yb, 0, none⟩), .slice none 0 0, .slice none 0 0, .slice none 0 0, .slice none 0 0, .slice none 0 0] 65)) :=
  ⟨heap_alloc_new w _, h.x.up ((Up.refl w).alloc _), h.y.up ((Up.refl w).alloc _), h.l, ⟨h.y1, heap_at h.y.blk⟩, ⟨h.y2, h.y.rom.lt⟩, ⟨h.y3, h.y.ram.lt⟩⟩
set_option maxRecDepth 100000 in
set_option maxHeartbeats 2000000 in
theorem pair_any (hT : Tb W) (h : By W g n f) (h8 : ∀ k, 0 ≤ f k ∧ f k ≤ 255) (n2 : n ≤ 2097451) (hS : Byts W sa sb so sn sc sf) (s2 : sn ≤ 140737488355328) : Calls Tryd.prog 25 #[.slice (some ⟨g, 0, none⟩) n n, .slice sa sn sc] W fun e w' => Up W w' ∧ ∃ x oc, Wants f n sn sf x oc ∧ ((oc = none ∧ e = .returned (.tuple #[.pointer none, .bool true])) ∨ (∃ pb lo hi A Y C, oc = some C ∧ e = .returned (.tuple #[.pointer (some ⟨pb, 0, none⟩), .bool true]) ∧ Prd W pb lo hi A Y C w')) := by
  have HT : Hid (∀ w, Up W w → Tb w) := fun w u => hT.up u
  have HB : Hid (∀ w, Up W w → By w g n f) := fun w u => h.up u
  have HS : Hid (∀ w, Up W w → Byts w sa sb so sn sc sf) := fun w u => hS.upC u
  have H8 : Hid ((∀ k, 0 ≤ f k ∧ f k ≤ 255) ∧ (∀ k, 0 ≤ sf k ∧ sf k ≤ 255)) := ⟨h8, hS.u8⟩
  have HLe : Hid (∀ w, Up W w → Calls Tryd.prog 28 #[.slice (some ⟨g, 0, none⟩) n n] w fun e w' => ∃ l, e = .returned (.slice (some ⟨l, 0, none⟩) (n + 8) (n + 8)) ∧ w.heap.size ≤ l ∧ By w' l (n + 8) (lentF n f) ∧ Up w w') := fun w u => lentB_any ((HB.out w u).byts (Nat.le_refl _) (by unfold maxLen; omega) h8) (by omega)
  have HLs : Hid (∀ w, Up W w → Calls Tryd.prog 28 #[.slice sa sn sc] w fun e w' => ∃ l, e = .returned (.slice (some ⟨l, 0, none⟩) (sn + 8) (sn + 8)) ∧ w.heap.size ≤ l ∧ By w' l (sn + 8) (lentF sn sf) ∧ Up w w') := fun w u => lentB_any (HS.out w u) s2
  have sc1 : sn ≤ sc := hS.lc
  have sc9 : sc ≤ 9223372036854775807 := by have := hS.cm; unfold maxLen at this; omega
  clear hT h h8 hS
  go_enter Tryd.func25, Tryd.ntmps25
  go_wp2_with fail
  refine Calls.mono (HLe.out W (Up.refl W)) ?_
  rintro e w1 ⟨l, rfl, hl, hb, u1⟩
  obtain ⟨M, hM⟩ : ∃ M : Nat, M = n + 8 := ⟨_, rfl⟩
  obtain ⟨K, hK⟩ : ∃ K : Nat, K = sn + 8 := ⟨_, rfl⟩
  have HMe : Hid (M = n + 8 ∧ K = sn + 8) := ⟨hM, hK⟩
  have eM : (n : Int) ≤ (M : Int) := by omega
  have eK : (sn : Int) ≤ (K : Int) := by omega
  have HL1 : Hid (By w1 l (n + 8) (lentF n f) ∧ Up W w1 ∧ W.heap.size ≤ l) := ⟨hb, u1, hl⟩
  have m9 : M ≤ 9223372036854775807 := by omega
  have mn : n ≤ M := by omega
  have k9 : K ≤ 9223372036854775807 := by omega
  have kn : sn ≤ K := by omega
  rw [← hK] at HLs
  rw [← hM]
  clear hb u1 hl hM hK HLe
  go_wp2_with fail
  refine Calls.mono (HLs.out w1 HL1.out.2.1) ?_
  rintro e w2 ⟨s, rfl, hs, hb, u2⟩
  have HL2 : Hid (By w2 l (n + 8) (lentF n f) ∧ By w2 s (sn + 8) (lentF sn sf) ∧ Up W w2 ∧ W.heap.size ≤ l ∧ W.heap.size ≤ s ∧ l ≠ s ∧ l < w2.heap.size ∧ s < w2.heap.size) := by
    have a1 := HL1.out.1.lt
    have a2 := HL1.out.2.1.size
    have a3 := u2.size
    have a4 := hb.lt
    have a5 := HL1.out.2.2
    exact ⟨HL1.out.1.up u2, by rw [HMe.out.2] at hb; exact hb, HL1.out.2.1.trans u2, a5, by omega, by omega, by omega, a4⟩
  clear hs hb u2 HL1 HLs
  go_wp2_with fail
  refine wp_region_held_drew (S := fun _ => True) (by kernel_rfl) trivial (fun hHeld => ?_)
  have HLd : Hid (By w2.drew l (n + 8) (lentF n f) ∧ By w2.drew s (sn + 8) (lentF sn sf) ∧ Up W w2.drew ∧ W.heap.size ≤ l ∧ W.heap.size ≤ s ∧ l ≠ s ∧ l < w2.drew.heap.size ∧ s < w2.drew.heap.size) := by
    obtain ⟨a1, a2, a3, a4, a5, a6, a7, a8⟩ := HL2.out
    have u : Up w2 w2.drew := (Up.refl w2).drew
    have := u.size
    exact ⟨a1.up u, a2.up u, a3.trans u, a4, a5, a6, by omega, by omega⟩
  clear HL2
  generalize World.drew w2 = wd at HLd hHeld ⊢
  have HL2 := HLd
  clear HLd
  have HNp : Hid _ := newP_all (W := wd) (g := l) (n := n) (f := f) (c := M) (sl := s) (sn := sn) (sc := K) (sf := sf) (fun _ => lent_by HL2.out.2.1) kn (by have := HMe.out.2; unfold maxLen; omega) H8.out.2 (HT.out wd HL2.out.2.2.1) (lent_by HL2.out.1) mn m9 H8.out.1
  refine wpAnyH_take (i := 0) (v := ?_) (by simp only [List.getElem?_toArray, List.getElem?_cons_zero]; rfl) (by kernel_rfl) (by kernel_rfl) (by kernel_rfl) (by intro _ _ _ h; exact h) (Or.inl ⟨by rfl, ?_⟩) (by assumption) ?_
  rotate_left
  · (intro w hSw; (try dsimp only at hSw); go_simp <;> with_reducible rfl)
  try simp only [Act.put, List.setIfInBounds_toArray, List.set_cons_zero, List.set_cons_succ]
  refine wpAnyH_take (i := 1) (v := ?_) (by simp only [List.getElem?_toArray, List.getElem?_cons_succ, List.getElem?_cons_zero]; rfl) (by kernel_rfl) (by kernel_rfl) (by kernel_rfl) (by intro _ _ _ h; exact h) (Or.inl ⟨by rfl, ?_⟩) (by assumption) ?_
  rotate_left
  · (intro w hSw; (try dsimp only at hSw); go_simp <;> with_reducible rfl)
  try simp only [Act.put, List.setIfInBounds_toArray, List.set_cons_zero, List.set_cons_succ]
  refine wpAnyH_take (i := 2) (v := ?_) (by simp only [List.getElem?_toArray, List.getElem?_cons_succ, List.getElem?_cons_zero]; rfl) (by kernel_rfl) (by kernel_rfl) (by kernel_rfl) (by intro _ _ _ h; exact h) (Or.inl ⟨by rfl, ?_⟩) (by assumption) ?_
  rotate_left
  · (intro w hSw; (try dsimp only at hSw); go_simp <;> with_reducible rfl)
  try simp only [Act.put, List.setIfInBounds_toArray, List.set_cons_zero, List.set_cons_succ]
  refine wpAnyH_take (i := 3) (v := ?_) (by simp only [List.getElem?_toArray, List.getElem?_cons_succ, List.getElem?_cons_zero]; rfl) (by kernel_rfl) (by kernel_rfl) (by kernel_rfl) (by intro _ _ _ h; exact h) (Or.inl ⟨by rfl, ?_⟩) (by assumption) ?_
  rotate_left
  · (intro w hSw; (try dsimp only at hSw); go_simp <;> with_reducible rfl)
  try simp only [Act.put, List.setIfInBounds_toArray, List.set_cons_zero, List.set_cons_succ]
  refine wpAnyH_take (i := 4) (v := ?_) (by simp only [List.getElem?_toArray, List.getElem?_cons_succ, List.getElem?_cons_zero]; rfl) (by kernel_rfl) (by kernel_rfl) (by kernel_rfl) (by intro _ _ _ h; exact h) (Or.inl ⟨by rfl, ?_⟩) (by assumption) ?_
  rotate_left
  · (intro w hSw; (try dsimp only at hSw); go_simp <;> with_reducible rfl)
  try simp only [Act.put, List.setIfInBounds_toArray, List.set_cons_zero, List.set_cons_succ]
  refine wpAnyH_take (i := 5) (v := ?_) (by simp only [List.getElem?_toArray, List.getElem?_cons_succ, List.getElem?_cons_zero]; rfl) (by kernel_rfl) (by kernel_rfl) (by kernel_rfl) (by intro _ _ _ h; exact h) (Or.inl ⟨by rfl, ?_⟩) (by assumption) ?_
  rotate_left
  · (intro w hSw; (try dsimp only at hSw); go_simp <;> with_reducible rfl)
  try simp only [Act.put, List.setIfInBounds_toArray, List.set_cons_zero, List.set_cons_succ]
  refine wpAnyH_take (i := 6) (v := ?_) (by simp only [List.getElem?_toArray, List.getElem?_cons_succ, List.getElem?_cons_zero]; rfl) (by kernel_rfl) (by kernel_rfl) (by kernel_rfl) (by intro _ _ _ h; exact h) (Or.inl ⟨by rfl, ?_⟩) (by assumption) ?_
  rotate_left
  · (intro w hSw; (try dsimp only at hSw); go_simp <;> with_reducible rfl)
  try simp only [Act.put, List.setIfInBounds_toArray, List.set_cons_zero, List.set_cons_succ]
  refine wpAnyH_take (i := 7) (v := ?_) (by simp only [List.getElem?_toArray, List.getElem?_cons_succ, List.getElem?_cons_zero]; rfl) (by kernel_rfl) (by kernel_rfl) (by kernel_rfl) (by intro _ _ _ h; exact h) (Or.inl ⟨by rfl, ?_⟩) (by assumption) ?_
  rotate_left
  · (intro w hSw; (try dsimp only at hSw); go_simp <;> with_reducible rfl)
  try simp only [Act.put, List.setIfInBounds_toArray, List.set_cons_zero, List.set_cons_succ]
  refine wpAnyH_ready (rs := [8]) (by kernel_rfl) (by simp) ?_
  refine AllReadyH.cons (by simp only [List.getElem?_toArray, List.getElem?_cons_succ, List.getElem?_cons_zero]; rfl) (fun KK hK => ?_) AllReadyH.nil
  go_simp
  refine Calls.mono HNp.out ?_
  rintro e w3 ⟨u3, x, oc, hw, hcs⟩
  obtain ⟨px, rfl, hq2⟩ : ∃ px, e = .returned (.tuple #[px, .int .i64 x]) ∧ ((oc = none ∧ x ≠ 0 ∧ px = .pointer none) ∨ (∃ A C, oc = some C ∧ x = 0 ∧ px = .pointer (some ⟨A.cb, 0, none⟩) ∧ Cz wd.heap.size w3.heap.size A C w3)) := by
    rcases hcs with ⟨q1, q2, q3⟩ | ⟨A, C, q1, q2, q3, q4⟩
    · exact ⟨_, q3, Or.inl ⟨q1, q2, rfl⟩⟩
    · exact ⟨_, by rw [q3, q2], Or.inr ⟨A, C, q1, q2, rfl, q4⟩⟩
  have HW : Hid (Wants f n sn sf x oc) := hw
  have HU3 : Hid (Up wd w3) := u3
  have HCs : Hid _ := hq2
  clear hw u3 HNp hcs hq2
  refine hK.out _ _ trivial (fun hHeld => ?_)
  clear hK KK
  try simp only [Act.put, List.setIfInBounds_toArray, List.set_cons_zero, List.set_cons_succ]
  refine wpAnyH_take (i := 9) (v := ?_) (by simp only [List.getElem?_toArray, List.getElem?_cons_succ, List.getElem?_cons_zero]; rfl) (by kernel_rfl) (by kernel_rfl) (by kernel_rfl) (by intro _ _ _ h; exact h) (Or.inl ⟨by rfl, ?_⟩) (by assumption) ?_
  rotate_left
  · (intro w hSw; (try dsimp only at hSw); go_simp <;> with_reducible rfl)
  try simp only [Act.put, List.setIfInBounds_toArray, List.set_cons_zero, List.set_cons_succ]
  refine wpAnyH_take (i := 10) (v := ?_) (by simp only [List.getElem?_toArray, List.getElem?_cons_succ, List.getElem?_cons_zero]; rfl) (by kernel_rfl) (by kernel_rfl) (by kernel_rfl) (by intro _ _ _ h; exact h) (Or.inl ⟨by rfl, ?_⟩) (by assumption) ?_
  rotate_left
  · (intro w hSw; (try dsimp only at hSw); go_simp <;> with_reducible rfl)
  try simp only [Act.put, List.setIfInBounds_toArray, List.set_cons_zero, List.set_cons_succ]
  refine wpAnyH_take (i := 11) (v := ?_) (by simp only [List.getElem?_toArray, List.getElem?_cons_succ, List.getElem?_cons_zero]; rfl) (by kernel_rfl) (by kernel_rfl) (by kernel_rfl) (by intro _ _ _ h; exact h) (Or.inl ⟨by rfl, ?_⟩) (by assumption) ?_
  rotate_left
  · (intro w hSw; (try dsimp only at hSw); go_simp <;> with_reducible rfl)
  try simp only [Act.put, List.setIfInBounds_toArray, List.set_cons_zero, List.set_cons_succ]
  refine wpAnyH_take (i := 12) (v := ?_) (by simp only [List.getElem?_toArray, List.getElem?_cons_succ, List.getElem?_cons_zero]; rfl) (by kernel_rfl) (by kernel_rfl) (by kernel_rfl) (by intro _ _ _ h; exact h) (Or.inl ⟨by rfl, ?_⟩) (by assumption) ?_
  rotate_left
  · (intro w hSw; (try dsimp only at hSw); go_simp <;> with_reducible rfl)
  try simp only [Act.put, List.setIfInBounds_toArray, List.set_cons_zero, List.set_cons_succ]
  refine wpAnyH_take (i := 13) (v := ?_) (by simp only [List.getElem?_toArray, List.getElem?_cons_succ, List.getElem?_cons_zero]; rfl) (by kernel_rfl) (by kernel_rfl) (by kernel_rfl) (by intro _ _ _ h; exact h) (Or.inl ⟨by rfl, ?_⟩) (by assumption) ?_
  rotate_left
  · (intro w hSw; (try dsimp only at hSw); go_simp <;> with_reducible rfl)
  try simp only [Act.put, List.setIfInBounds_toArray, List.set_cons_zero, List.set_cons_succ]
  refine wpAnyH_done (by kernel_rfl) ?_ _
  clear hHeld
  have hcs := HCs.out
  clear HCs
  have HNr : Hid _ := newR_all (W := w3) (c := n) (HS.out w3 (HL2.out.2.2.1.trans HU3.out)) (HB.out w3 (HL2.out.2.2.1.trans HU3.out)) (Nat.le_refl _) (by omega) H8.out.1
  have HBk1 : Hid (∀ w, Up wd w → Calls Tryd.prog 30 #[.slice (some ⟨l, 0, none⟩) M M, .slice (some ⟨g, 0, none⟩) n n] w fun e w' => e = .returned (.bool true) ∧ Fr l w w') := fun w u => by
    rw [HMe.out.1]
    exact backB_any ((HB.out w (HL2.out.2.2.1.trans u)).byts (Nat.le_refl _) (by unfold maxLen; omega) H8.out.1) (by omega) (HL2.out.1.up u)
  have HBk2 : Hid (∀ w w', Up wd w → Fr l w w' → Calls Tryd.prog 30 #[.slice (some ⟨s, 0, none⟩) K K, .slice sa sn sc] w' fun e w'' => e = .returned (.bool true) ∧ Fr s w' w'') := fun w w' u fr => by
    rw [HMe.out.2]
    exact backB_any (HS.out w' (Fr.up (HL2.out.2.2.1.trans u) HL2.out.2.2.2.1 fr)) s2 ((HL2.out.2.1.up u).fr fr (fun e => HL2.out.2.2.2.2.2.1 e.symm))
  have HFin : Hid (∀ w w' w'', Up wd w → Fr l w w' → Fr s w' w'' → Up W w'') := fun w w' w'' u f1 f2 => Fr.up (Fr.up (HL2.out.2.2.1.trans u) HL2.out.2.2.2.1 f1) HL2.out.2.2.2.2.1 f2
  rcases hcs with ⟨ho, hx, rfl⟩ | ⟨A, C, ho, rfl, rfl, hz⟩
  · have ex : (x == 0) = false := by simpa using hx
    have zx : (x == x) = true := by simp
    have ez : (x != 0) = true := by simp [hx]
    have ey : (!x != 0) = false := by simp [hx]
    go_wp2_with fail
    refine Calls.mono HNr.out ?_
    rintro e w4 ⟨u4, x', oc', hw', hcs'⟩
    obtain ⟨rfl, rfl⟩ := HW.out.uniq hw'
    rcases hcs' with ⟨_, _, rfl⟩ | ⟨Y, C, h1, h2, _⟩
    case inr => exact absurd h2 hx
    have HU4 : Hid (Up wd w4) := HU3.out.trans u4
    clear u4 hw' HNr
    go_wp2_with fail
    refine Calls.mono (HBk1.out w4 HU4.out) ?_
    rintro e w5 ⟨rfl, f5⟩
    have HF5 : Hid (Fr l w4 w5) := f5
    clear f5 HBk1
    go_wp2_with fail
    refine Calls.mono (HBk2.out w4 w5 HU4.out HF5.out) ?_
    rintro e w6 ⟨rfl, f6⟩
    have HF6 : Hid (Up W w6) := HFin.out w4 w5 w6 HU4.out HF5.out f6
    clear f6 HBk2 HF5
    go_wp2_with fail
    go_ret2
    exact ⟨HF6.out, x, oc, HW.out, Or.inl ⟨ho, by first | rfl | (simp; done)⟩⟩
  · have HZ : Hid (Cz wd.heap.size w3.heap.size A C w3 ∧ oc = some C) := ⟨hz, ho⟩
    clear hz ho
    generalize hcb : A.cb = cb
    have HCb : Hid (A.cb = cb) := hcb
    clear hcb
    go_wp2_with fail
    refine Calls.mono HNr.out ?_
    rintro e w4 ⟨u4, x', oc', hw', hcs'⟩
    obtain ⟨rfl, rfl⟩ := HW.out.uniq hw'
    rcases hcs' with ⟨_, h2, _⟩ | ⟨Y, D, h1, _, rfl, hr, b1, b2, b3⟩
    · exact absurd rfl h2
    obtain rfl : C = D := by have := HZ.out.2; rw [h1] at this; cases this; rfl
    have HU4 : Hid (Up wd w4 ∧ Bth W wd.heap.size w3.heap.size A Y C w4) := ⟨HU3.out.trans u4, HZ.out.1.up u4, hr, HL2.out.2.2.1.size, b1, b2, b3⟩
    clear u4 hw' HNr hr b1 b2 b3
    generalize hyb : Y.yb = yb
    have HYb : Hid (Y.yb = yb) := hyb
    clear hyb
    go_wp2_with fail
    refine Calls.mono (HBk1.out w4 HU4.out.1) ?_
    rintro e w5 ⟨rfl, f5⟩
    have HF5 : Hid (Fr l w4 w5) := f5
    clear f5 HBk1
    go_wp2_with fail
    refine Calls.mono (HBk2.out w4 w5 HU4.out.1 HF5.out) ?_
    rintro e w6 ⟨rfl, f6⟩
    have HF6 : Hid (Up W w6 ∧ Bth W wd.heap.size w3.heap.size A Y C w6) := ⟨HFin.out w4 w5 w6 HU4.out.1 HF5.out f6, (HU4.out.2.fr HF5.out HL2.out.2.2.2.2.2.2.1).fr f6 HL2.out.2.2.2.2.2.2.2⟩
    clear f6 HBk2 HF5
    go_wp2_with fail
    go_ret2
    refine ⟨?_, 0, _, HW.out, Or.inr ⟨w6.heap.size, wd.heap.size, w3.heap.size, A, Y, C, HZ.out.2, by first | rfl | (simp; done), ?_⟩⟩
    rotate_left
    · have q := HF6.out.2.pair
      rw [HCb.out, HYb.out] at q
      exact q
    · exact HF6.out.1.alloc _
end Go.Proofs.YtojlappgmckokaaDoor
