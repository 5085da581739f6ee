/- What the reference's small calls come to, as contracts over the translation: rows of bits, numbers of rows, flags. Conditions: at most sixteen bits. -/
import Derived.Test.YtlbcodjkcjjoeabDoorAlu
import Derived.Test.YtlbcodjkcjjoeabDoorRefP
import Derived.Test.YtlbcodjkcjjoeabDoorRefA
import Derived.LoopTactic
namespace Go.Proofs.YtlbcodjkcjjoeabDoor
open Go.ChangeShapes Go.WideShapes Go.ChangeAt Go.RowKit
set_option linter.unusedVariables false


/-- nothing that was there has turned -/
def Kept (w w' : World) : Prop := w.keptBut w' (fun _ => False) ∧ w.heap.size ≤ w'.heap.size
theorem Kept.refl (w : World) : Kept w w := ⟨World.keptBut_refl _ _, Nat.le_refl _⟩
theorem Kept.step {a b c : World} (h : Kept a b) (g : Kept b c) : Kept a c := ⟨World.keptBut_trans h.1 g.1, Nat.le_trans h.2 g.2⟩
theorem Kept.ofGrown {a b : World} (h : Grown a b) : Kept a b := ⟨h.1, h.2.2⟩
theorem Kept.ofBelow {a b : World} (h : Below a.heap.size a b) : Kept a b := ⟨h.frame _, h.size⟩
theorem Kept.cell {a b : World} (h : Kept a b) {k o : Nat} (hk : k < a.heap.size) : b.cell? ⟨k, o, none⟩ = a.cell? ⟨k, o, none⟩ := h.1.cell hk (fun x => x)
/-- a slice of n truths -/
def BRow (w : World) (v : Value) (n : Nat) (f : Nat → Bool) : Prop :=
  ∃ b cap, v = .slice (some ⟨b, 0, none⟩) n cap ∧ b < w.heap.size ∧ n ≤ cap ∧ ∀ i, i < n → w.cell? ⟨b, i, none⟩ = some (.bool (f i))
theorem BRow.kept {w w' : World} {v : Value} {n : Nat} {f : Nat → Bool} (h : BRow w v n f) (k : Kept w w') : BRow w' v n f := by
  obtain ⟨b, cap, rfl, hb, hc, hi⟩ := h
  exact ⟨b, cap, rfl, Nat.lt_of_lt_of_le hb k.2, hc, fun i h => (k.cell hb).trans (hi i h)⟩
theorem brow_of_owns {w : World} {B : Nat} {v : Value} {n : Nat} {f : Nat → Bool} (h : w.ownsRow B 4 1 v n ((List.range n).map fun j => Value.bool (f j))) (hn : 0 < n) : BRow w v n f := by
  have hl := h.lt
  have hc := @World.ownsRow.cells _ _ _ _ _ _ _ h
  rcases h.2 with ⟨_, h0⟩ | ⟨g, cap, cur, rfl, _, _, hcap, _⟩
  · omega
  · refine ⟨g, cap, rfl, (hl g rfl).2, hcap, fun i hi => ?_⟩
    have := hc (g := g) rfl i (.bool (f i)) (by simp [hi])
    have hadd : (⟨g, 0, none⟩ : Addr).add i = ⟨g, i, none⟩ := by unfold Addr.add; split <;> simp_all
    rw [hadd] at this
    exact this
theorem bits_snoc (V k u : Nat) (hu : u = V / 2 ^ k) : ((List.range k).map fun j => Value.bool (bitB V j)) ++ [.bool ((u : Int) % 2 == 1)] = (List.range (k + 1)).map fun j => Value.bool (bitB V j) := by
  rw [List.range_succ, List.map_append]
  congr 1
  simp only [List.map_cons, List.map_nil, bitB, ← hu]
  congr 2
  rw [Bool.eq_iff_iff, beq_iff_eq, beq_iff_eq]; omega

set_option maxRecDepth 100000 in
set_option maxHeartbeats 1000000 in
theorem bits_any (V n : Nat) (w : World) (hV : V ≤ 65535) (hn : 0 < n) (hn2 : n ≤ 16) :
    Calls Tryd.prog 54 #[.int .i64 V, .int .i64 n] w fun e w' => ∃ s, e = .returned s ∧ BRow w' s n (bitB V) ∧ Kept w w' := by
  obtain ⟨i0, hi, hz0, hz1, hz2⟩ := info_parts info4
  go_enter Tryd.func54, Tryd.ntmps54
  go_wp2
  go_loopw [0, 5, 6] (fun x v i wr => ∃ k u : Nat, k ≤ n ∧ u ≤ 65535 ∧ i = .int .i64 k ∧ x = .int .i64 u ∧ Hid (u = V / 2 ^ k) ∧ wr.ownsRow w.heap.size 4 1 v k ((List.range k).map fun j => Value.bool (bitB V j)) ∧ Below w.heap.size w wr) (fun _ _ i _ => n - (intOf i).toNat)
  case atStart => exact ⟨0, V, by omega, hV, rfl, rfl, show V = V / 2 ^ 0 by simp, World.ownsRow_nil _ _ _ _, Below.refl _ _⟩
  case round =>
    obtain ⟨k, u, hk, hu, rfl, rfl, hq, hown, hbel⟩ := hrel
    by_cases hlt : k < n
    · go_wp2_with (at_builtin; refine wpList_append_own _ rfl _ _ 44 rfl w.heap.size 4 i0 (.bool false) 1 1 Tryd.underlying44 hi hz0 hz1 hz2 rfl (by decide) _ _ _ rfl (hown.alloc _) ⟨wr.heap.size, 0, none⟩ 1 1 [.bool ((u : Int) % 2 == 1)] rfl rfl ?c1 ?c2 ?c3 ?c4 ?c5 ?_)
      case c1 =>
        intro j u hj
        match j, hj with
        | 0, hj => simp at hj; subst hj; simp [Addr.add]
      case c2 => intro u hu; simp at hu; subst hu; rfl
      case c3 => unfold maxLen; omega
      case c4 => omega
      case c5 => have := hbel.size; simp; omega
      · intro v' w1 hown' hgrow _
        rw [bits_snoc V k u hq.out] at hown'
        have hb1 : Below w.heap.size w w1 := (hbel.alloc hbel.size _).grown hgrow (by have := hbel.size; simp; omega) (fun j hj => (hown.lt j hj).1)
        clear hgrow hown hbel
        go_wp2
        go_roundw
        case rel => exact ⟨k + 1, u / 2, by omega, by omega, by go_num, by go_num, show u / 2 = V / 2 ^ (k + 1) by rw [hq.out, Nat.div_div_eq_div_mul, Nat.pow_succ], hown', hb1⟩
        case measure => simp [intOf]; omega
    · obtain rfl : k = n := by omega
      go_wp2
      go_ret
      exact ⟨_, rfl, brow_of_owns hown hn, Kept.ofBelow hbel⟩

theorem retB {a b : Bool} (h : a = b) : Ending.returned (.bool a) = .returned (.bool b) := by rw [h]
theorem hi_step (f : Nat → Bool) (n q v : Nat) (hq : q + 1 ≤ n) (hv : v = hiF f (q + 1) (n - (q + 1))) : 2 * v + b2n (f q) = hiF f q (n - q) := by
  rw [show n - q = (n - (q + 1)) + 1 from by omega, hiF, ← hv]; omega
set_option maxRecDepth 100000 in
set_option maxHeartbeats 1000000 in
theorem number_any (s : Value) (n : Nat) (f : Nat → Bool) (w : World) (hs : BRow w s n f) (hn2 : n ≤ 16) :
    Calls Tryd.prog 57 #[s] w fun e w' => e = .returned (.int .i64 (numF f n)) ∧ w' = w := by
  obtain ⟨b, cap, rfl, hb, hcap, hcell⟩ := hs
  have H : Hid (∀ i, i < n → w.cell? ⟨b, i, none⟩ = some (.bool (f i))) := hcell
  clear hcell
  go_enter Tryd.func57, Tryd.ntmps57
  go_wp2
  go_loop [3, 4] (fun x i => ∃ j v : Nat, j ≤ n ∧ v < 65536 ∧ i = .int .i64 ((j : Int) - 1) ∧ x = .int .i64 v ∧ Hid (v = hiF f j (n - j))) (fun _ i => (intOf i + 1).toNat)
  case atStart => exact ⟨n, 0, Nat.le_refl _, by omega, rfl, rfl, show 0 = hiF f n (n - n) by rw [Nat.sub_self]; rfl⟩
  case round =>
    obtain ⟨j, v, hj, hv, rfl, rfl, hq⟩ := hrel
    cases j with
    | zero =>
      go_wp2
      go_ret
      exact ⟨ret1 (by rw [hq.out, Nat.sub_zero, hi_num]), rfl⟩
    | succ q =>
      have hc := H.out q (by omega)
      have e : (((q + 1 : Nat) : Int) - 1) = (q : Int) := by omega
      rw [e]
      have hlt := hiF_lt f q (n - q)
      have hp : 2 ^ (n - q) ≤ 2 ^ 16 := Nat.pow_le_pow_right (by decide) (by omega)
      have st := hi_step f n q v hj hq.out
      have S : Hid (2 * v + b2n (f q) = hiF f q (n - q)) := st
      have hb2 := b2n_le (f q)
      have hv2 : 2 * v + b2n (f q) < 65536 := by omega
      clear st hlt hp e
      cases hfq : f q
      · rw [hfq] at hc
        have S2 : Hid (2 * v = hiF f q (n - q)) := by have := S.out; rw [hfq] at this; exact this
        rw [hfq] at hv2
        simp only [b2n] at hv2
        clear S hb2 hfq
        go_wp2
        go_round
        case rel => exact ⟨q, 2 * v, by omega, by simpa using hv2, by go_num, by go_num, S2⟩
        case measure => simp [intOf] <;> omega
      · rw [hfq] at hc
        have S2 : Hid (2 * v + 1 = hiF f q (n - q)) := by have := S.out; rw [hfq] at this; exact this
        rw [hfq] at hv2
        simp only [b2n] at hv2
        clear S hb2 hfq
        go_wp2
        go_round
        case rel => exact ⟨q, 2 * v + 1, by omega, by simpa using hv2, by go_num, by go_num, S2⟩
        case measure => simp [intOf] <;> omega

theorem flags_any (z n h c : Bool) (w : World) :
    Calls Tryd.prog 58 #[.bool z, .bool n, .bool h, .bool c] w fun e w' => e = .returned (.int .u8 (flg z n h c)) ∧ w' = w := by
  cases z <;> cases n <;> cases h <;> cases c
  all_goals
    go_enter Tryd.func58, Tryd.ntmps58
    go_wp2
    go_ret
    exact ⟨rfl, rfl⟩
theorem has_any (f g : Int) (w : World) (hf : 0 ≤ f) (hf2 : f ≤ 255) (hg : 0 < g) (hg2 : g ≤ 255) :
    Calls Tryd.prog 55 #[.int .u8 f, .int .u8 g] w fun e w' => e = .returned (.bool (f / g % 2 == 1)) ∧ w' = w := by
  go_enter Tryd.func55, Tryd.ntmps55
  go_wp2
  go_ret
  exact ⟨retB (by rw [Int.tmod_eq_emod_of_nonneg (Int.ediv_nonneg hf (by omega))]), rfl⟩
theorem clean_any (f : Int) (w : World) (hf : 0 ≤ f) (hf2 : f ≤ 255) :
    Calls Tryd.prog 60 #[.int .u8 f] w fun e w' => e = .returned (.int .u8 (f / 16 * 16)) ∧ w' = w := by
  go_enter Tryd.func60, Tryd.ntmps60
  go_wp2
  go_ret
  exact ⟨ret1 (by omega), rfl⟩
end Go.Proofs.YtlbcodjkcjjoeabDoor
