/- Proto: numbers are written; is nothing there. -/
import Derived.Test.YtnengokobkehfaaPrO
namespace Go.Proofs.Ytnengokobkehfaa
open Go.RowKit
set_option linter.unusedVariables false
variable {w w' W : World}
/-- a list of one's own that has grown; v has become v' -/
structure Gr (W w' : World) (v v' : Value) : Prop where
  os : w'.os = W.os
  output : w'.output = W.output
  size : W.heap.size ≤ w'.heap.size
  block : ∀ b, b < W.heap.size → v.ownBlock ≠ some b → w'.heap[b]? = W.heap[b]?
  new : ∀ b, v'.ownBlock = some b → v.ownBlock = some b ∨ W.heap.size ≤ b
theorem Gr.refl (W : World) (v : Value) : Gr W W v v := ⟨rfl, rfl, Nat.le_refl _, fun _ _ _ => rfl, fun _ h => Or.inl h⟩
theorem Gr.of {v v' : Value} (h : W.grownBy w' v.ownBlock) (hw : v'.ownBlock = v.ownBlock ∨ v'.ownBlock = some W.heap.size) : Gr W w' v v' :=
  ⟨h.os, h.output, h.size, fun b hb hn => h.block b hb (fun e => hn e.symm), fun b hb => by
    rcases hw with e | e
    · exact Or.inl (e ▸ hb)
    · rw [e] at hb; injection hb with hb; exact Or.inr (by omega)⟩
theorem Gr.trans {v v1 v2 : Value} {w2 : World} (h : Gr W w v v1) (k : Gr w w2 v1 v2) : Gr W w2 v v2 :=
  ⟨k.os.trans h.os, k.output.trans h.output, Nat.le_trans h.size k.size, fun b hb hn => (k.block b (Nat.lt_of_lt_of_le hb h.size) (fun e => by
    rcases h.new b e with e' | e'
    · exact hn e'
    · omega)).trans (h.block b hb hn), fun b hb => by
    rcases k.new b hb with e | e
    · exact h.new b e
    · exact Or.inr (Nat.le_trans h.size e)⟩
theorem Gr.upL {v v' : Value} {w0 : World} (u : Up w0 W) (h : Gr W w' v v') : Gr w0 w' v v' :=
  ⟨h.os.trans u.os, h.output.trans u.output, Nat.le_trans u.size h.size, fun b hb hn => (h.block b (Nat.lt_of_lt_of_le hb u.size) hn).trans (u.block b hb), fun b hb => (h.new b hb).imp id (fun e => Nat.le_trans u.size e)⟩
theorem Gr.upR {v v' : Value} {w2 : World} (h : Gr W w v v') (u : Up w w2) : Gr W w2 v v' :=
  ⟨u.os.trans h.os, u.output.trans h.output, Nat.le_trans h.size u.size, fun b hb hn => (u.block b (Nat.lt_of_lt_of_le hb h.size)).trans (h.block b hb hn), h.new⟩
theorem Gr.up {v v' : Value} (h : Gr W w' v v') (hv : v.ownBlock = none) : Up W w' := ⟨h.os, h.output, h.size, fun b hb => h.block b hb (by rw [hv]; intro e; cases e)⟩
theorem byteOf (n : Int) (i : Nat) : n / 2 ^ (8 * i) % 256 = n / 256 ^ i % 256 := by
  rw [show (2 : Int) ^ (8 * i) = 256 ^ i by rw [Int.pow_mul]; rfl]
theorem src_one (w : World) (x : Int) (ty : TypeId) : Src (w.alloc (.cells #[.int .u8 x] ty)) (.slice (some ⟨w.heap.size, 0, none⟩) 1 1) [x] := by
  refine Or.inl ⟨_, _, rfl, fun k y hk => ?_⟩
  rw [addr_add, Nat.zero_add]
  refine heap_cell (heap_alloc_new w _) ?_
  match k, hk with
  | 0, hk => simp at hk; rw [hk]; rfl
  | k + 1, hk => simp at hk
set_option maxRecDepth 100000 in
set_option maxHeartbeats 800000 in
theorem withNumber_any {base : Nat} {v : Value} {xs : List Int} (n : Int) (wd : Nat) (hw : wd ≤ 4) (W : World) (h : W.ownsRow base 5 1 v xs.length (u8s xs)) (hx : xs.length ≤ 1099511627776) (hb : base ≤ W.heap.size) :
    Calls Try.prog 39 #[v, .int .i64 n, .int .i64 wd] W fun e w' => ∃ v', e = .returned v' ∧ w'.ownsRow base 5 1 v' (xs ++ dg n wd).length (u8s (xs ++ dg n wd)) ∧ Gr W w' v v' := by
  have HO : Hid (W.ownsRow base 5 1 v xs.length (u8s xs)) := h
  obtain ⟨va, vn, vc, hv⟩ := own_slice3 h
  subst hv
  clear h
  go_enter Try.func39, Try.ntmps39
  go_wp2_with fail
  go_loopw [0, 7] (fun bv i wr => ∃ (k : Nat) (pre : List Int), k ≤ wd ∧ i = .int .i64 ((k : Int) - 1) ∧ Hid (dg n wd = pre ++ dg n k) ∧ Hid (wr.ownsRow base 5 1 bv (xs ++ pre).length (u8s (xs ++ pre))) ∧ Hid (Gr W wr (.slice va vn vc) bv)) (fun _ i _ => (intOf i + 1).toNat)
  case atStart => exact ⟨wd, [], Nat.le_refl _, by first | rfl | go_num, rfl, by rw [List.append_nil]; exact HO.out, Gr.refl _ _⟩
  case round =>
    obtain ⟨k, pre, hk, rfl, hD, hO, hG⟩ := hrel
    obtain ⟨wa, wn, wc, hwv⟩ := own_slice3 hO.out
    subst hwv
    have hsz := hG.out.size
    cases k with
    | zero =>
      have hE : Hid (dg n wd = pre) := by show _ = _; rw [hD.out]; exact List.append_nil _
      go_wp2_with fail
      go_ret
      refine ⟨_, rfl, ?_, hG.out⟩
      rw [hE.out]
      exact hO.out
    | succ k =>
      have hi1 : (((k + 1 : Nat) : Int) - 1) = k := by omega
      rw [hi1]
      have hE : Hid (dg n wd = (pre ++ [n / 2 ^ (8 * k) % 256]) ++ dg n k) := by
        show _ = _
        rw [hD.out, List.append_assoc, byteOf]
        rfl
      have hlp : pre.length ≤ 4 := by have := congrArg List.length hD.out; rw [dg_len, List.length_append] at this; omega
      have hki : (k : Int) ≤ 4 := by omega
      go_wp2_with (refine wpList_append_bytes rfl _ _ rfl base (.slice wa wn wc) (xs ++ pre) rfl (ownsRow_up hO.out ((Up.refl wr).alloc _)) (.slice (some ⟨wr.heap.size, 0, none⟩) 1 1) [n / 2 ^ (8 * k) % 256] rfl (by exact src_one wr _ _) (by simp; omega) (by simp; omega) (fun v8 w8 ho hg hw => ?_)
                   have HG8 : Hid (Gr W w8 (.slice va vn vc) v8) := hG.out.trans (Gr.upL ((Up.refl wr).alloc _) (Gr.of hg hw))
                   have HO8 : Hid (w8.ownsRow base 5 1 v8 (xs ++ (pre ++ [n / 2 ^ (8 * k) % 256])).length (u8s (xs ++ (pre ++ [n / 2 ^ (8 * k) % 256])))) := by rw [← List.append_assoc]; exact ho
                   clear ho hg hw)
      go_roundw
      case rel => exact ⟨k, _, by omega, by first | rfl | go_num, hE, HO8, HG8⟩
      case measure => simp [intOf]
set_option maxRecDepth 100000 in
set_option maxHeartbeats 800000 in
theorem isEmpty_any (c : C) (u : Fld → Value) (W : World) : Calls Try.prog 40 #[.agg (cCells c u)] W fun e w' => e = .returned (.bool c.emp) ∧ Up W w' := by
  unfold cCells C.emp
  generalize c.tenant.num = a1
  generalize c.name.num = a2
  generalize c.n.num = a3
  generalize c.m.num = a4
  generalize c.data.num = a5
  go_enter Try.func40, Try.ntmps40
  go_wp2
  all_goals
    go_ret
    refine ⟨retB ?_, (Up.refl W).alloc _⟩
    simp [*]
end Go.Proofs.Ytnengokobkehfaa
