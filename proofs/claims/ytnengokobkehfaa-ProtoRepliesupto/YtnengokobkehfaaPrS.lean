/- Proto: the law's own small calls. -/
import Derived.Test.YtnengokobkehfaaPrO
namespace Go.Proofs.Ytnengokobkehfaa
open Go.RowKit
set_option linter.unusedVariables false
variable {w w' W : World}
theorem str_self (s : ByteArray) : (s == s) = true := by
  first | exact beq_self_eq_true s | exact decide_eq_true rfl | (show decide (s = s) = true; exact decide_eq_true rfl) | (cases s; rename_i d; show (d == d) = true; simp) | (unfold BEq.beq; simp)
set_option maxRecDepth 100000 in
set_option maxHeartbeats 800000 in
theorem same_yes {c : C} {d1 d2 : Value} (w : World) (h1 : Bs 0 w d1 c.data.bs) (h2 : Bs 0 w d2 c.data.bs) :
    Calls Try.prog 13 #[.agg (mC c d1).toArray, .agg (mC c d2).toArray] w fun e w' => e = .returned (.bool true) ∧ Up w w' := by
  obtain ⟨a1, _, _, c1, e1, _⟩ := h1.ex
  obtain ⟨a2, _, _, c2, e2, _⟩ := h2.ex
  have hss := str_self
  unfold mC
  obtain ⟨s, hs⟩ : ∃ s, s = strOfNums c.data.bs := ⟨_, rfl⟩
  have HC1 : Hid (∀ w', Up w w' → (convert 22 9 d1).run Try.prog w' = .ok (.string (strOfNums c.data.bs)) w') := fun w' u => (h1.up u).conv
  have HC2 : Hid (∀ w', Up w w' → (convert 22 9 d2).run Try.prog w' = .ok (.string (strOfNums c.data.bs)) w') := fun w' u => (h2.up u).conv
  rw [← hs] at HC1 HC2
  rw [e1] at HC1 ⊢
  rw [e2] at HC2 ⊢
  generalize strOfNums c.name.bs = t
  generalize c.data.bs.length = n at *
  clear hs h1 h2 e1 e2
  have hc1 := fun o o' => HC1.out ((w.alloc o).alloc o') (((Up.refl w).alloc o).alloc o')
  have hc2 := fun o o' => HC2.out ((w.alloc o).alloc o') (((Up.refl w).alloc o).alloc o')
  go_enter Try.func13, Try.ntmps13
  go_wp2
  go_ret
  exact ⟨rfl, ((Up.refl w).alloc _).alloc _⟩
/-- the rows of a list of messages -/
theorem RowsM.at {P : Nat → Prop} {base : Nat} {v : Value} {rs : List (C × Value)} (h : RowsM P base w v rs) : ∃ a g c, v = .slice a rs.length c ∧ rs.length ≤ c ∧ c ≤ maxLen ∧ (0 < rs.length → a = some ⟨g, 0, none⟩) ∧ ∀ k x, rs[k]? = some x → w.rangeAt g (k * 5) (mC x.1 x.2) ∧ Bs 0 w x.2 x.1.data.bs := by
  rcases own_cases h.own with ⟨h1, h2, _⟩ | ⟨g, cap, h1, h2, h3, _⟩
  · have e : rs = [] := List.length_eq_zero_iff.1 h2
    subst e
    exact ⟨none, 0, 0, h1, Nat.le_refl _, Nat.zero_le _, fun h => absurd h (by simp), fun k x hk => by simp at hk⟩
  · refine ⟨some ⟨g, 0, none⟩, g, cap, h1, h2, h3, fun _ => rfl, fun k x hk => ⟨fun j u hj => ?_, (h.dat x (List.mem_of_getElem? hk)).bs⟩⟩
    have ho := h.own
    rw [h1] at ho
    have hkl := (List.getElem?_eq_some_iff.1 hk).1
    have hj5 : j < 5 := (List.getElem?_eq_some_iff.1 hj).1
    have hh := own_cell ho (k * 5 + j) (by omega)
    rw [Nat.zero_add] at hh
    rw [hh]
    clear hh ho h h1
    induction rs generalizing k with
    | nil => simp at hk
    | cons y r ih =>
      have e0 : mrC (y :: r) = mC y.1 y.2 ++ mrC r := by simp [mrC]
      rw [e0]
      cases k with
      | zero =>
        have e : y = x := by simpa using hk
        subst e
        rw [Nat.zero_mul, Nat.zero_add, List.getElem?_append_left (by simp [mC]; exact hj5)]
        exact hj
      | succ k =>
        rw [List.getElem?_append_right (by simp [mC]; omega)]
        have e1 : (k + 1) * 5 + j - (mC y.1 y.2).length = k * 5 + j := by simp [mC]; omega
        rw [e1]
        simp only [List.length_cons] at hkl h2
        exact ih (by omega) k (by simpa using hk) (by omega)
theorem Fed.up {d : Nat} {v lv v' : Value} {l y : List Int} {e : Int} {rs : List (C × Value)} {r : Nat} {w1 w2 : World} (h : Fed w1 d v l y lv e v' rs r w2) (hU : Up W w1) (hd : W.heap.size ≤ d) (hD : Dcr w1 d v l false) : Up W w2 :=
  ⟨h.os.trans hU.os, h.output.trans hU.output, Nat.le_trans hU.size h.size, fun b hb => (h.block b (Nat.lt_of_lt_of_le hb hU.size) (by omega) (fun e => by have := hD.own.lt b e; omega)).trans (hU.block b hb)⟩
theorem Dcr.up {d : Nat} {v : Value} {l : List Int} {p : Bool} (h : Dcr w d v l p) (u : Up w w') : Dcr w' d v l p := ⟨(u.block d (heap_at h.row)).trans h.row, ownsRow_up h.own u, h.u8⟩
theorem src_lit (w : World) (cs : Array Value) (l : List Int) (ty : TypeId) (h : cs = (u8s l).toArray) : Src (w.alloc (.cells cs ty)) (.slice (some ⟨w.heap.size, 0, none⟩) l.length l.length) l := by
  refine Or.inl ⟨_, _, rfl, fun k x hk => ?_⟩
  rw [addr_add, Nat.zero_add]
  refine heap_cell (heap_alloc_new w _) ?_
  rw [h]
  simpa using u8s_at hk
def fedC : C := { C0 3 with n := ⟨5, []⟩ }
theorem fed_d1 : Dec msgT (fn [0, 0, 0, 3, 3, 0]) 6 0 [] 0 0 := .wait (fst_wait.2 (Or.inr (by decide)))
theorem fed_d2 : Dec msgT (fn [0, 0, 0, 3, 3, 0, 5, 0, 0]) 9 0 [fedC] 7 0 := .step (L := 3) (fst_whole.2 (by decide)) (by rfl) (.wait (fst_wait.2 (Or.inl (by decide))))
theorem fed_d3 : Dec msgT (fn [0, 0, 0, 0]) 4 0 [] 0 121 := .bad (fst_bad.2 (by decide))
theorem map_nil' {rs : List (C × Value)} (h : rs.map (·.1) = []) : rs = [] := by simpa using h
theorem map_one {rs : List (C × Value)} {c : C} (h : rs.map (·.1) = [c]) : ∃ d, rs = [(c, d)] := by
  match rs, h with
  | [(c', d)], h => simp at h; exact ⟨d, by rw [h]⟩
  | [], h => simp at h
  | _ :: _ :: _, h => simp at h
set_option maxRecDepth 100000 in
set_option maxHeartbeats 1000000 in
theorem fed_any (W : World) : Calls Try.prog 7 #[] W fun e w' => e = .returned (.bool true) ∧ Up W w' := by
  go_enter Try.func7, Try.ntmps7
  go_wp2_with fail
  refine (newDecoder_any W).mono ?_
  rintro e w1 ⟨rfl, hD1, hU1, hs1⟩
  obtain ⟨d, hd⟩ : ∃ d, d = W.heap.size := ⟨_, rfl⟩
  rw [← hd] at hD1 ⊢
  have HD1 : Hid (Dcr w1 d (.slice none 0 0) [] false) := hD1
  have HU1 : Hid (Up W w1) := hU1
  have HDW : Hid (W.heap.size ≤ d) := by show _ ≤ _; omega
  clear hD1 hU1 hs1 hd
  go_wp2_with fail
  have HS1 : Hid _ := src_lit w1 #[.int .u8 0, .int .u8 0, .int .u8 0, .int .u8 3, .int .u8 3, .int .u8 0] [0, 0, 0, 3, 3, 0] 5 rfl
  refine (feed_any _ (HD1.out.up ((Up.refl w1).alloc _)) HS1.out (by unfold L8 U8; decide) (by decide)).mono ?_
  rintro e w2 ⟨lv, er, v2, rs, r, rfl, F⟩
  obtain ⟨e1, e2, e3⟩ := fed_d1.det F.dec
  have e4 := map_nil' e1.symm
  subst e2 e3 e4
  have HD2 : Hid (Dcr w2 d v2 [0, 0, 0, 3, 3, 0] false) := F.st.1 rfl
  have HU2 : Hid (Up W w2) := F.up (HU1.out.trans ((Up.refl w1).alloc _)) HDW.out (HD1.out.up ((Up.refl w1).alloc _))
  obtain ⟨a2, g2, c2, rfl, _⟩ := F.rows.at
  clear F HS1 HD1 HU1 e1
  go_wp2_with fail
  have HS2 : Hid _ := src_lit w2 #[.int .u8 5, .int .u8 0, .int .u8 0] [5, 0, 0] 5 rfl
  refine (feed_any _ (HD2.out.up ((Up.refl w2).alloc _)) HS2.out (by unfold L8 U8; decide) (by decide)).mono ?_
  rintro e w3 ⟨lv, er, v3, rs, r, rfl, F⟩
  obtain ⟨e1, e2, e3⟩ := fed_d2.det F.dec
  obtain ⟨dv, e4⟩ := map_one e1.symm
  subst e2 e3 e4
  have HD3 : Hid (Dcr w3 d v3 [0, 0] false) := F.st.1 rfl
  have HU3 : Hid (Up W w3) := F.up (HU2.out.trans ((Up.refl w2).alloc _)) HDW.out (HD2.out.up ((Up.refl w2).alloc _))
  obtain ⟨a3, g3, c3, rfl, _, _, h3, h4⟩ := F.rows.at
  have e5 := h3 (by simp)
  subst e5
  have hr := (h4 0 _ rfl).1
  have r0 : w3.cell? ⟨g3, 0, none⟩ = some (.int .i64 3) := hr 0 _ rfl
  have r3 : w3.cell? ⟨g3, 3, none⟩ = some (.int .i64 5) := hr 3 _ rfl
  clear F HS2 HD2 HU2 e1 h3 h4 hr
  go_wp2_with fail
  have HS3 : Hid _ := src_lit w3 #[.int .u8 0, .int .u8 0] [0, 0] 5 rfl
  refine (feed_any _ (HD3.out.up ((Up.refl w3).alloc _)) HS3.out (by unfold L8 U8; decide) (by decide)).mono ?_
  rintro e w4 ⟨lv, er, v4, rs, r, rfl, F⟩
  obtain ⟨e1, e2, e3⟩ := fed_d3.det F.dec
  have e4 := map_nil' e1.symm
  subst e2 e3 e4
  have HD4 : Hid (Dcr w4 d v4 [] true) := F.st.2 (by decide)
  have HU4 : Hid (Up W w4) := F.up (HU3.out.trans ((Up.refl w3).alloc _)) HDW.out (HD3.out.up ((Up.refl w3).alloc _))
  obtain ⟨a4, g4, c4, rfl, _⟩ := F.rows.at
  clear F HS3 HD3 HU3 e1 r0 r3
  go_wp2_with fail
  refine (dead_any _ HD4.out).mono ?_
  rintro e w5 ⟨rfl, hw⟩
  have hw : w5 = w4 := hw
  subst hw
  go_wp2_with fail
  refine (poisoned_any _ HD4.out).mono ?_
  rintro e w6 ⟨rfl, hw⟩
  have hw : w6 = w5 := hw
  subst hw
  go_wp2_with fail
  go_ret
  exact ⟨rfl, HU4.out⟩
end Go.Proofs.Ytnengokobkehfaa
