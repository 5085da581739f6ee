/- Proto: reading a part; what fits. -/
import Derived.Test.YtnengokobkehfaaPrD
namespace Go.Proofs.Ytnengokobkehfaa
open Go.RowKit
set_option linter.unusedVariables false
variable {w w' W : World}
set_option maxRecDepth 100000 in
set_option maxHeartbeats 400000 in
theorem number_no {rb g O o e : Nat} {f : Nat → Int} (wd : Nat) (hm : e < o + wd) (w : World) (h : Rs w rb g O o e f) :
    Calls Try.prog 31 #[.pointer (some ⟨rb, 0, none⟩), .int .i64 wd] w fun x w' => x = .panicked (gaveV 121) ∧ Up w w' := by
  obtain ⟨c, hc⟩ := h.rd
  have HE : Hid (o ≤ e) := h.oe
  have HC : Hid (Rdr w rb g (O + o) (e - o) c) := hc
  clear h hc
  go_enter Try.func31, Try.ntmps31
  go_wp2_with fail
  refine (take_no (g := g) (o := O + o) (n := e - o) (c := c) wd (by have := HE.out; omega) _ (by exact HC.out.up ((Up.refl w).alloc _))).mono ?_
  rintro e1 w1 ⟨rfl, hw1⟩
  subst hw1
  go_wp2
  exact ⟨rfl, rfl, (Up.refl w).alloc _⟩
set_option maxRecDepth 100000 in
set_option maxHeartbeats 400000 in
theorem isLetter_any (x : Int) (h : U8 x) (w : World) :
    Calls Try.prog 50 #[.int .u8 x] w fun e w' => e = .returned (.bool (letB x)) ∧ w' = w := by
  obtain ⟨h0, h1⟩ := h
  go_enter Try.func50, Try.ntmps50
  go_wp2
  all_goals
    go_ret
    refine ⟨retB ?_, rfl⟩
    first
    | (rw [Bool.eq_iff_iff]; simp [letB]; omega)
    | (rw [Bool.eq_iff_iff]; simp [letB])
set_option maxRecDepth 100000 in
set_option maxHeartbeats 400000 in
theorem between_any (lo hi : Int) (w : World) :
    Calls Try.prog 32 #[.int .i64 lo, .int .i64 hi] w fun e w' => e = .returned (.func (.func 47) #[] #[.pointer (some ⟨w.heap.size, 0, none⟩), .pointer (some ⟨w.heap.size + 1, 0, none⟩)]) ∧ w' = (w.alloc (.cells #[.int .i64 lo] 3)).alloc (.cells #[.int .i64 hi] 3) := by
  have hmf : ∀ (fn : Fn) (first cap : Array Value) (w : World), (Instr.makeFunc fn first cap).run Try.prog w = .ok (.func fn first cap) w := fun _ _ _ _ => rfl
  go_enter Try.func32, Try.ntmps32
  go_wp2
  go_ret
  exact ⟨rfl, rfl⟩
set_option maxRecDepth 100000 in
set_option maxHeartbeats 400000 in
theorem between1_any (lo hi n : Int) (bv : Value) (b1 b2 : Nat) (w : World) (h1 : w.cell? ⟨b1, 0, none⟩ = some (.int .i64 lo)) (h2 : w.cell? ⟨b2, 0, none⟩ = some (.int .i64 hi)) (bs : List Int) :
    Calls Try.prog 47 #[.agg #[.int .i64 n, bv], .pointer (some ⟨b1, 0, none⟩), .pointer (some ⟨b2, 0, none⟩)] w fun e w' => e = .returned (.bool (fitB (.btw lo hi) ⟨n, bs⟩)) ∧ Up w w' := by
  have hb1 := World.block_lt_of_cell? _ _ h1
  have hb2 := World.block_lt_of_cell? _ _ h2
  go_enter Try.func47, Try.ntmps47
  go_wp2
  all_goals
    go_ret
    refine ⟨retB ?_, (Up.refl w).alloc _⟩
    rw [Bool.eq_iff_iff]
    simp [fitB]
    try omega
set_option maxRecDepth 100000 in
set_option maxHeartbeats 400000 in
theorem isName1_any (x : Int) (h : U8 x) (w : World) :
    Calls Try.prog 49 #[.int .u8 x] w fun e w' => e = .returned (.bool (!letB x)) ∧ w' = w := by
  go_enter Try.func49, Try.ntmps49
  go_wp2_with (go_at_call 50; refine (isLetter_any x h w).mono ?_; rintro e w' ⟨rfl, rfl⟩)
  go_ret
  exact ⟨rfl, rfl⟩
/-- the first byte that is none of a name -/
def badAt : List Int → Nat → Int
  | [], _ => -1
  | x :: r, k => if letB x then badAt r (k + 1) else k
theorem badAt_iff : ∀ (l : List Int) (k : Nat), (0 ≤ badAt l k) ↔ ¬ (l.all letB = true)
  | [], k => by simp [badAt]
  | x :: r, k => by
    unfold badAt
    by_cases h : letB x = true
    · rw [if_pos h, badAt_iff r (k + 1)]
      simp [h]
    · rw [if_neg h]
      simp [h]
theorem badAt_drop (l : List Int) (k : Nat) (hk : k < l.length) : badAt (l.drop k) k = if letB l[k] then badAt (l.drop (k + 1)) (k + 1) else k := by
  rw [List.drop_eq_getElem_cons hk]
  rfl
set_option maxRecDepth 100000 in
set_option maxHeartbeats 400000 in
theorem indexB_any {lo : Nat} {v : Value} {l : List Int} (w : World) (h : Bs lo w v l) :
    Calls Try.prog 56 #[v, .func (.func 49) #[] #[]] w fun e w' => e = .returned (.int .i64 (badAt l 0)) ∧ w' = w := by
  obtain ⟨a, g, o, c, rfl, hc, hm, ha, hcell⟩ := h.ex
  have h8 := h.u8
  have HC : Hid (∀ k x, l[k]? = some x → w.cell? ⟨g, o + k, none⟩ = some (.int .u8 x)) := hcell
  have HA : Hid (0 < l.length → a = some ⟨g, o, none⟩) := fun hp => (ha hp).1
  have HK : Hid (l.length ≤ maxLen) := by show _ ≤ _; omega
  have hln : (l.length : Int) ≤ 9223372036854775807 := by have := HK.out; unfold maxLen at this; omega
  clear h ha hcell hm
  go_enter Try.func56, Try.ntmps56
  go_wp2
  go_loop [8] (fun i => ∃ k : Nat, k ≤ l.length ∧ i = .int .i64 k ∧ Hid (badAt l 0 = badAt (l.drop k) k)) (fun i => l.length - (intOf i).toNat)
  case atStart => exact ⟨0, Nat.zero_le _, rfl, rfl⟩
  case round =>
    obtain ⟨k, hk, rfl, hB⟩ := hrel
    by_cases hlt : k < l.length
    · have ea := HA.out (by omega)
      subst ea
      obtain ⟨x, hx⟩ : ∃ x, x = l[k] := ⟨_, rfl⟩
      have hcx := HC.out k x (by rw [hx]; exact List.getElem?_eq_getElem hlt)
      have hx8 : Hid (U8 x) := h8 x (by rw [hx]; exact List.getElem_mem hlt)
      have hB2 : Hid (badAt l 0 = if letB x then badAt (l.drop (k + 1)) (k + 1) else k) := by
        show _ = _
        rw [hB.out, badAt_drop l k hlt, hx]
      clear hB hx
      by_cases hx : letB x = true
      · have hnb : (!letB x) = false := by simp [hx]
        have hB3 : Hid (badAt l 0 = badAt (l.drop (k + 1)) (k + 1)) := by show _ = _; rw [hB2.out, if_pos hx]
        go_wp2_with (go_at_call 49; refine (isName1_any x hx8.out w).mono ?_; rintro e w' ⟨rfl, rfl⟩; rw [hnb])
        go_round
        case rel => exact ⟨k + 1, by omega, by go_num, hB3⟩
        case measure => simp [intOf]; omega
      · have hnb : (!letB x) = true := by simp [hx]
        have hB3 : Hid (badAt l 0 = k) := by show _ = _; rw [hB2.out, if_neg hx]
        go_wp2_with (go_at_call 49; refine (isName1_any x hx8.out w).mono ?_; rintro e w' ⟨rfl, rfl⟩; rw [hnb])
        go_ret
        exact ⟨ret1 hB3.out.symm, rfl⟩
    · have e : k = l.length := by omega
      subst e
      have hB3 : Hid (badAt l 0 = -1) := by show _ = _; rw [hB.out, List.drop_length]; rfl
      clear hB
      go_wp2
      go_ret
      exact ⟨ret1 hB3.out.symm, rfl⟩
set_option maxRecDepth 100000 in
set_option maxHeartbeats 400000 in
theorem containsB_any {lo : Nat} {v : Value} {l : List Int} (w : World) (h : Bs lo w v l) :
    Calls Try.prog 48 #[v, .func (.func 49) #[] #[]] w fun e w' => e = .returned (.bool (!(l.all letB))) ∧ w' = w := by
  have HB := badAt_iff l 0
  have HH : Hid (Bs lo w v l) := h
  clear h
  obtain ⟨r, hr⟩ : ∃ r, r = badAt l 0 := ⟨_, rfl⟩
  obtain ⟨b, hb⟩ : ∃ b, b = l.all letB := ⟨_, rfl⟩
  have HR : Hid (r = badAt l 0) := hr
  have HBB : Hid (decide (0 ≤ r) = !b) := by
    show _ = _
    rw [← hr, ← hb] at HB
    cases b
    · simpa using HB
    · simp at HB; simp; omega
  rw [← hb]
  clear HB hr hb
  go_enter Try.func48, Try.ntmps48
  go_wp2_with (go_at_call 56; refine (indexB_any w HH.out).mono ?_; rintro e w' ⟨rfl, rfl⟩; rw [← HR.out])
  go_ret
  exact ⟨retB HBB.out, rfl⟩
set_option maxRecDepth 100000 in
set_option maxHeartbeats 400000 in
theorem isName_any {lo : Nat} {v : Value} {l : List Int} (n : Int) (w : World) (h : Bs lo w v l) :
    Calls Try.prog 35 #[.agg #[.int .i64 n, v]] w fun e w' => e = .returned (.bool (fitB .name ⟨n, l⟩)) ∧ Up w w' := by
  have HH : Hid (Bs lo w v l) := h
  obtain ⟨a, g, o, c, hv, _⟩ := h.ex
  subst hv
  clear h
  obtain ⟨b, hb⟩ : ∃ b, b = l.all letB := ⟨_, rfl⟩
  have HB : Hid (b = l.all letB) := hb
  have HF : Hid (fitB .name ⟨n, l⟩ = (decide (1 ≤ n) && decide (n ≤ 16) && b)) := by show _ = _; rw [hb]; rfl
  clear hb
  rw [HF.out]
  by_cases h1 : 1 ≤ n
  · by_cases h2 : n ≤ 16
    · go_enter Try.func35, Try.ntmps35
      go_wp2_with (go_at_call 48; refine (containsB_any (lo := lo) (l := l) _ (by exact HH.out.up ((Up.refl w).alloc _))).mono ?_; rintro e w' ⟨rfl, rfl⟩; rw [← HB.out])
      go_ret
      exact ⟨retB (by simp [h1, h2]), (Up.refl w).alloc _⟩
    · have h2' : 16 < n := by omega
      go_enter Try.func35, Try.ntmps35
      go_wp2_with fail
      go_ret
      exact ⟨retB (by rw [show decide (n ≤ 16) = false from decide_eq_false (by omega)]; simp), (Up.refl w).alloc _⟩
  · have h1' : n < 1 := by omega
    go_enter Try.func35, Try.ntmps35
    go_wp2_with fail
    go_ret
    exact ⟨retB (by rw [show decide (1 ≤ n) = false from decide_eq_false (by omega)]; simp), (Up.refl w).alloc _⟩
end Go.Proofs.Ytnengokobkehfaa
