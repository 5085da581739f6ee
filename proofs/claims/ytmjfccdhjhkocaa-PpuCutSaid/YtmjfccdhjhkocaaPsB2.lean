/- Sprites of a line are found. -/
import Derived.Test.YtmjfccdhjhkocaaPsA
import Derived.ArgAppend
namespace Go.Proofs.Ytmjfccdhjhkocaa
open Go.RowKit
set_option linter.unusedVariables false
variable {b : Nat} {p : Pic}
/-- the j-th sprite of the table -/
def Pic.spr (p : Pic) (j : Nat) : Spr := ⟨p.oa (4 * j), p.oa (4 * j + 1), p.oa (4 * j + 2), p.oa (4 * j + 3)⟩
theorem Pic.spr_in (i : p.In) (j : Nat) : (p.spr j).In := ⟨i.oa _, i.oa _, i.oa _, i.oa _⟩
/-- does the line have it? -/
def Pic.onLine (p : Pic) (s : Spr) : Bool := decide (0 ≤ p.rg 4 + 16 - s.row) && decide (p.rg 4 + 16 - s.row < p.sprH)
/-- those that are found among the first j -/
def Pic.found (p : Pic) : Nat → List Spr
  | 0 => []
  | j + 1 => if (p.found j).length < 10 ∧ p.onLine (p.spr j) = true then p.found j ++ [p.spr j] else p.found j
theorem Pic.found_len (p : Pic) (j : Nat) : (p.found j).length ≤ 10 := by
  induction j with
  | zero => exact Nat.zero_le _
  | succ j ih =>
    unfold Pic.found
    split
    · rename_i h
      rw [List.length_append]
      simp
      omega
    · exact ih
theorem Pic.found_full (p : Pic) (j : Nat) (h : (p.found j).length = 10) : ∀ k, p.found (j + k) = p.found j := by
  intro k
  induction k with
  | zero => rfl
  | succ k ih =>
    show (if (p.found (j + k)).length < 10 ∧ p.onLine (p.spr (j + k)) = true then p.found (j + k) ++ [p.spr (j + k)] else p.found (j + k)) = p.found j
    rw [ih, if_neg (by omega)]
/-- the field k of a sprite -/
def Spr.at (s : Spr) (k : Nat) : Int := if k = 0 then s.row else if k = 1 then s.col else if k = 2 then s.tile else s.flg
/-- a block of ten sprites, of which the first ones are these -/
structure LsAt (w : World) (g : Nat) (l : List Spr) : Prop where
  row : ∃ cs ty, w.heap[g]? = some (.cells cs ty (0, 0)) ∧ cs.size = 40 ∧ ∀ j s, l[j]? = some s → ∀ k, k < 4 → cs[4 * j + k]? = some (.int .u8 (s.at k))
theorem LsAt.lt {w : World} {g : Nat} {l : List Spr} (h : LsAt w g l) : g < w.heap.size := by
  obtain ⟨cs, ty, h1, _⟩ := h.row
  exact (Array.getElem?_eq_some_iff.1 h1).1
theorem LsAt.of_block {w w' : World} {g : Nat} {l : List Spr} (h : LsAt w g l) (e : w'.heap[g]? = w.heap[g]?) : LsAt w' g l := by
  obtain ⟨cs, ty, h1, h2⟩ := h.row
  exact ⟨cs, ty, e.trans h1, h2⟩
theorem LsAt.spare {w : World} {g : Nat} {l : List Spr} (h : LsAt w g l) (k : Nat) (hk : k < 40) : (w.cell? ⟨g, k, none⟩).isSome = true ∧ w.frozen? ⟨g, k, none⟩ = false := by
  obtain ⟨cs, ty, h1, h2, h3⟩ := h.row
  refine ⟨?_, by unfold World.frozen?; rw [show w.heap[(⟨g, k, none⟩ : Addr).block]? = _ from h1]; simp⟩
  rw [cell_of_row _ _ _ _ _ _ h1, Array.getElem?_eq_getElem (by omega)]
  rfl
theorem LsAt.push {w : World} {g : Nat} {l : List Spr} (h : LsAt w g l) (hl : l.length < 10) (s : Spr) : LsAt (w.setCells g (0 + l.length * 4) [.int .u8 s.row, .int .u8 s.col, .int .u8 s.tile, .int .u8 s.flg]) g (l ++ [s]) := by
  obtain ⟨cs, ty, h1, h2, h3⟩ := h.row
  have g1 := heap_setCell_same w g (0 + l.length * 4) _ _ (.int .u8 s.row) h1
  have g2 := heap_setCell_same _ g (0 + l.length * 4 + 1) _ _ (.int .u8 s.col) g1
  have g3 := heap_setCell_same _ g (0 + l.length * 4 + 1 + 1) _ _ (.int .u8 s.tile) g2
  have g4 := heap_setCell_same _ g (0 + l.length * 4 + 1 + 1 + 1) _ _ (.int .u8 s.flg) g3
  refine ⟨_, ty, g4, by simp [h2], fun j t hj k hk => ?_⟩
  rw [Array.getElem?_setIfInBounds, Array.getElem?_setIfInBounds, Array.getElem?_setIfInBounds, Array.getElem?_setIfInBounds]
  simp only [Array.size_setIfInBounds, h2]
  have hjl : j < l.length + 1 := by
    have := (List.getElem?_eq_some_iff.1 hj).1
    simpa using this
  by_cases e : j = l.length
  · subst e
    have et : t = s := by simpa using hj.symm
    subst et
    have hk' : k = 0 ∨ k = 1 ∨ k = 2 ∨ k = 3 := by omega
    rcases hk' with rfl | rfl | rfl | rfl
    · rw [if_neg (by omega), if_neg (by omega), if_neg (by omega), if_pos (by omega), if_pos (by omega)]; rfl
    · rw [if_neg (by omega), if_neg (by omega), if_pos (by omega), if_pos (by omega)]; rfl
    · rw [if_neg (by omega), if_pos (by omega), if_pos (by omega)]; rfl
    · rw [if_pos (by omega), if_pos (by omega)]; rfl
  · rw [if_neg (by omega), if_neg (by omega), if_neg (by omega), if_neg (by omega)]
    refine h3 j t ?_ k hk
    rw [List.getElem?_append_left (by omega)] at hj
    exact hj
theorem set4 {w : World} {g : Nat} {x y z t x' y' z' t' : Value} {ty : TypeId} (h : w.heap[g]? = some (.cells #[x, y, z, t] ty (0, 0))) : (w.setCells g 0 [x', y', z', t']).heap[g]? = some (.cells #[x', y', z', t'] ty (0, 0)) := by
  have h1 := heap_setCell_same w g 0 _ _ x' h
  have h2 := heap_setCell_same _ g 1 _ _ y' h1
  have h3 := heap_setCell_same _ g 2 _ _ z' h2
  have h4 := heap_setCell_same _ g 3 _ _ t' h3
  exact h4
theorem there4 {w : World} {g : Nat} {x y z t : Value} {ty : TypeId} (h : w.heap[g]? = some (.cells #[x, y, z, t] ty (0, 0))) : w.there g 0 4 := by
  intro j hj
  have hj' : j = 0 ∨ j = 1 ∨ j = 2 ∨ j = 3 := by omega
  refine ⟨?_, by unfold World.frozen?; rw [show w.heap[(⟨g, 0 + j, none⟩ : Addr).block]? = _ from h]; simp⟩
  rw [cell_of_row _ _ _ _ _ _ h]
  rcases hj' with rfl | rfl | rfl | rfl <;> rfl
theorem range4 {w : World} {g : Nat} {x y z t : Value} {ty : TypeId} (h : w.heap[g]? = some (.cells #[x, y, z, t] ty (0, 0))) : w.rangeAt g 0 [x, y, z, t] := by
  intro k v hv
  rw [Nat.zero_add, cell_of_row _ _ _ _ _ _ h]
  match k with
  | 0 => simp at hv; rw [← hv]; rfl
  | 1 => simp at hv; rw [← hv]; rfl
  | 2 => simp at hv; rw [← hv]; rfl
  | 3 => simp at hv; rw [← hv]; rfl
  | k + 4 => simp at hv
theorem setCells_other (w : World) {g k : Nat} (hk : k ≠ g) : ∀ (vs : List Value) (o : Nat), (w.setCells g o vs).heap[k]? = w.heap[k]? := by
  intro vs
  induction vs generalizing w with
  | nil => intro o; rfl
  | cons v vs ih => intro o; exact (ih (w.setCell ⟨g, o, none⟩ v) (o + 1)).trans (Below.heap_setCell w ⟨g, o, none⟩ v k hk)
theorem wpList_push {w : World} {ops : Array Oper} {rest : List Oper} {o : Oper} {a : Act} {Q : Exit → Act → World → Prop} (hgd : o.guard = none) (s x : Operand)
    (ho : o.op = .call { callee := .builtin .append, args := #[s, x], argTypes := #[102, 102] }) (lb n : Nat) (hs : a.eval s = .slice (some ⟨lb, 0, none⟩) n 10)
    (g c : Nat) (hx : a.eval x = .slice (some ⟨g, 0, none⟩) 1 c) (news : List Value) (hl : news.length = 4) (hr : w.rangeAt g 0 news) (h1 : ∀ u ∈ news, u.oneCell' = true) (hn : n < 10)
    (hsp : ∀ k, k < 40 → (w.cell? ⟨lb, k, none⟩).isSome = true ∧ w.frozen? ⟨lb, k, none⟩ = false)
    (h : wpList Try.prog ops Q rest (a.put o.dst (.slice (some ⟨lb, 0, none⟩) (n + 1) 10)) (w.setCells lb (0 + n * 4) news)) : wpList Try.prog ops Q (o :: rest) a w := by
  obtain ⟨i, hi, hz⟩ : ∃ i, Try.prog.info? 100 = some i ∧ i.size = 4 := by
    have : (Try.prog.info? 100).map (·.size) = some 4 := by kernel_rfl
    obtain ⟨i, h1, h2⟩ := Option.map_eq_some_iff.1 this
    exact ⟨i, h1, h2⟩
  have hrun := run_append_room_cells (P := Try.prog) w 102 o.type 100 i Try.underlying102 hi lb 0 n 10 ⟨g, 0, none⟩ 1 c news (by rw [hl, hz]) (fun j u hj => by
    have := hr j u hj
    rw [Addr.add_lit]
    exact this) h1 (by omega) (fun j hj => (hsp _ (by rw [hz]; omega)).1) (fun j hj => (hsp _ (by rw [hz]; omega)).2)
  rw [hz] at hrun
  refine wpList_plain hgd fun K hK' => ?_
  unfold Oper.wp
  simp [execOp, ho, resolve, invoke, builtin, hs, hx, hrun, Result.andThen]
  exact hK' _ _ (by simpa using h)
set_option maxRecDepth 100000 in
set_option maxHeartbeats 4000000 in
theorem findSprites_any (i : p.In) {N : Nat} (hN : N = 40) (lb : Nat) (hlb : lb ≠ b) (W : World) (h : PxAt W b p) (hL : LsAt W lb []) : Calls Try.prog 80 #[.pointer (some ⟨b, 0, none⟩), .slice (some ⟨lb, 0, none⟩) 0 10] W fun e w' => e = .returned (.slice (some ⟨lb, 0, none⟩) (p.found N).length 10) ∧ LsAt w' lb (p.found N) ∧ Fr lb W w' := by
  have HI : Hid p.In := i
  have hL0 : LsAt W lb (p.found 0) := by show LsAt W lb []; exact hL
  have H0 : Hid (PxAt W b p ∧ LsAt W lb (p.found 0) ∧ Fr lb W W) := And.intro h (And.intro hL0 (Fr.refl _ _))
  have HRow : Hid (∀ (s : Spr) (W : World), s.In → PxAt W b p → Calls Try.prog 90 #[.pointer (some ⟨b, 0, none⟩), s.val] W fun e w' => e = .returned (.int .i64 (p.rg 4 + 16 - s.row)) ∧ Up W w') := fun s W hs h => rowIn_any HI.out s hs W h
  have HH : Hid (∀ W, PxAt W b p → Calls Try.prog 91 #[.pointer (some ⟨b, 0, none⟩)] W fun e w' => e = .returned (.int .i64 p.sprH) ∧ w' = W) := fun W h => spriteHigh_any W h
  have HNN : Hid (N = 40) := hN
  clear h hL i hN hL0
  go_enter Try.func80, Try.ntmps80
  go_wp2_with fail
  go_loopw [1, 5] (fun F A wr => ∃ (j n : Nat), j ≤ 40 ∧ A = .int .i64 ((4 * j : Nat) : Int) ∧ F = .slice (some ⟨lb, 0, none⟩) n 10 ∧ Hid (n = (p.found j).length) ∧ Hid (PxAt wr b p ∧ LsAt wr lb (p.found j) ∧ Fr lb W wr)) (fun _ A _ => 160 - (intOf A).toNat)
  case atStart => exact ⟨0, 0, by omega, rfl, rfl, rfl, H0⟩
  case round =>
    clear H0
    obtain ⟨j, n, hj, rfl, rfl, hn, M0⟩ := hrel
    have n10 : n ≤ 10 := by have := p.found_len j; have := hn.out; omega
    obtain ⟨A, hA⟩ : ∃ A, A = 4 * j := ⟨_, rfl⟩
    rw [← hA]
    by_cases hgo : j < 40 ∧ n < 10
    · have d1 : decide ((A : Int) < 160) = true := decide_eq_true (by omega)
      have d2 : decide ((n : Int) < 10) = true := decide_eq_true (by omega)
      have a1 : A ≤ 156 := by omega
      have i0 : (A : Int).toNat = A := by omega
      have i1 : ((A : Int) + 1).toNat = A + 1 := by omega
      have i2 : ((A : Int) + 2).toNat = A + 2 := by omega
      have i3 : ((A : Int) + 3).toNat = A + 3 := by omega
      have b1 : (A : Int) + 1 < 160 := by omega
      have c1 : (0 : Int) ≤ (A : Int) + 1 := by omega
      have v1 : IntKind.i64.wrap ((A : Int) + 1) = (A : Int) + 1 := by simp [IntKind.wrap, IntKind.bits, IntKind.signed]; omega
      have b2 : (A : Int) + 2 < 160 := by omega
      have c2 : (0 : Int) ≤ (A : Int) + 2 := by omega
      have v2 : IntKind.i64.wrap ((A : Int) + 2) = (A : Int) + 2 := by simp [IntKind.wrap, IntKind.bits, IntKind.signed]; omega
      have b3 : (A : Int) + 3 < 160 := by omega
      have c3 : (0 : Int) ≤ (A : Int) + 3 := by omega
      have v3 : IntKind.i64.wrap ((A : Int) + 3) = (A : Int) + 3 := by simp [IntKind.wrap, IntKind.bits, IntKind.signed]; omega
      have b0 : (A : Int) < 160 := by omega
      have HA : Hid (A = 4 * j) := hA
      have HJ : Hid (j < 40 ∧ n < 10) := hgo
      obtain ⟨S, hS⟩ : ∃ S : Spr, S = p.spr j := ⟨_, rfl⟩
      have HSp : Hid (S = p.spr j) := hS
      have HK : Hid (∀ w', PxAt w' b p → w'.cell? ⟨b, 8192 + A, none⟩ = some (.int .u8 S.row) ∧ w'.cell? ⟨b, 8192 + (A + 1), none⟩ = some (.int .u8 S.col) ∧ w'.cell? ⟨b, 8192 + (A + 2), none⟩ = some (.int .u8 S.tile) ∧ w'.cell? ⟨b, 8192 + (A + 3), none⟩ = some (.int .u8 S.flg)) := fun w' h' => by
        rw [hS, hA]
        exact ⟨h'.oam _ (by omega), h'.oam _ (by omega), h'.oam _ (by omega), h'.oam _ (by omega)⟩
      clear hA hS hgo
      go_wp2_with fail
      refine wp_region_held_drew (S := fun w' => w'.cell? ⟨b, 8192 + A, none⟩ = some (.int .u8 S.row) ∧ w'.cell? ⟨b, 8192 + (A + 1), none⟩ = some (.int .u8 S.col) ∧ w'.cell? ⟨b, 8192 + (A + 2), none⟩ = some (.int .u8 S.tile) ∧ w'.cell? ⟨b, 8192 + (A + 3), none⟩ = some (.int .u8 S.flg)) (by kernel_rfl) ?_ (fun hHeld => ?_)
      · (try dsimp only); exact HK.out _ (M0.out.1.up (Up.refl _).drew)
      refine wpAnyH_take (i := 0) (v := ?_) (by simp only [List.getElem?_toArray, List.getElem?_cons_zero]; rfl) (by kernel_rfl) (by kernel_rfl) (by kernel_rfl) (by intro _ _ _ h; exact h) (Or.inl ⟨by rfl, ?_⟩) (by assumption) ?_
      rotate_left
      · (intro w hSw; (try dsimp only at hSw); go_simp <;> with_reducible rfl)
      try simp only [Act.put, List.setIfInBounds_toArray, List.set_cons_zero, List.set_cons_succ]
      refine wpAnyH_take (i := 1) (v := ?_) (by simp only [List.getElem?_toArray, List.getElem?_cons_succ, List.getElem?_cons_zero]; rfl) (by kernel_rfl) (by kernel_rfl) (by kernel_rfl) (by intro _ _ _ h; exact h) (Or.inl ⟨by rfl, ?_⟩) (by assumption) ?_
      rotate_left
      · (intro w hSw; (try dsimp only at hSw); go_simp <;> with_reducible rfl)
      try simp only [Act.put, List.setIfInBounds_toArray, List.set_cons_zero, List.set_cons_succ]
      refine wpAnyH_take (i := 2) (v := ?_) (by simp only [List.getElem?_toArray, List.getElem?_cons_succ, List.getElem?_cons_zero]; rfl) (by kernel_rfl) (by kernel_rfl) (by kernel_rfl) (by intro _ _ _ h; exact h) (Or.inl ⟨by rfl, ?_⟩) (by assumption) ?_
      rotate_left
      · (intro w hSw; (try dsimp only at hSw); go_simp <;> with_reducible rfl)
      try simp only [Act.put, List.setIfInBounds_toArray, List.set_cons_zero, List.set_cons_succ]
      refine wpAnyH_take (i := 3) (v := ?_) (by simp only [List.getElem?_toArray, List.getElem?_cons_succ, List.getElem?_cons_zero]; rfl) (by kernel_rfl) (by kernel_rfl) (by kernel_rfl) (by intro _ _ _ h; exact h) (Or.inl ⟨by rfl, ?_⟩) (by assumption) ?_
      rotate_left
      · (intro w hSw; (try dsimp only at hSw); go_simp <;> with_reducible rfl)
      try simp only [Act.put, List.setIfInBounds_toArray, List.set_cons_zero, List.set_cons_succ]
      refine wpAnyH_take (i := 4) (v := ?_) (by simp only [List.getElem?_toArray, List.getElem?_cons_succ, List.getElem?_cons_zero]; rfl) (by kernel_rfl) (by kernel_rfl) (by kernel_rfl) (by intro _ _ _ h; exact h) (Or.inl ⟨by rfl, ?_⟩) (by assumption) ?_
      rotate_left
      · (intro w hSw; (try dsimp only at hSw); go_simp <;> with_reducible rfl)
      try simp only [Act.put, List.setIfInBounds_toArray, List.set_cons_zero, List.set_cons_succ]
      refine wpAnyH_take (i := 5) (v := ?_) (by simp only [List.getElem?_toArray, List.getElem?_cons_succ, List.getElem?_cons_zero]; rfl) (by kernel_rfl) (by kernel_rfl) (by kernel_rfl) (by intro _ _ _ h; exact h) (Or.inl ⟨by rfl, ?_⟩) (by assumption) ?_
      rotate_left
      · (intro w hSw; (try dsimp only at hSw); go_simp <;> with_reducible rfl)
      try simp only [Act.put, List.setIfInBounds_toArray, List.set_cons_zero, List.set_cons_succ]
      refine wpAnyH_take (i := 6) (v := ?_) (by simp only [List.getElem?_toArray, List.getElem?_cons_succ, List.getElem?_cons_zero]; rfl) (by kernel_rfl) (by kernel_rfl) (by kernel_rfl) (by intro _ _ _ h; exact h) (Or.inl ⟨by rfl, ?_⟩) (by assumption) ?_
      rotate_left
      · (intro w hSw; (try dsimp only at hSw); go_simp <;> with_reducible rfl)
      try simp only [Act.put, List.setIfInBounds_toArray, List.set_cons_zero, List.set_cons_succ]
      refine wpAnyH_take (i := 7) (v := ?_) (by simp only [List.getElem?_toArray, List.getElem?_cons_succ, List.getElem?_cons_zero]; rfl) (by kernel_rfl) (by kernel_rfl) (by kernel_rfl) (by intro _ _ _ h; exact h) (Or.inl ⟨by rfl, ?_⟩) (by assumption) ?_
      rotate_left
      · (intro w hSw; (try dsimp only at hSw); go_simp <;> with_reducible rfl)
      try simp only [Act.put, List.setIfInBounds_toArray, List.set_cons_zero, List.set_cons_succ]
      refine wpAnyH_take (i := 8) (v := ?_) (by simp only [List.getElem?_toArray, List.getElem?_cons_succ, List.getElem?_cons_zero]; rfl) (by kernel_rfl) (by kernel_rfl) (by kernel_rfl) (by intro _ _ _ h; exact h) (Or.inl ⟨by rfl, ?_⟩) (by assumption) ?_
      rotate_left
      · (intro w hSw; (try dsimp only at hSw); go_simp <;> with_reducible rfl)
      try simp only [Act.put, List.setIfInBounds_toArray, List.set_cons_zero, List.set_cons_succ]
      refine wpAnyH_take (i := 9) (v := ?_) (by simp only [List.getElem?_toArray, List.getElem?_cons_succ, List.getElem?_cons_zero]; rfl) (by kernel_rfl) (by kernel_rfl) (by kernel_rfl) (by intro _ _ _ h; exact h) (Or.inl ⟨by rfl, ?_⟩) (by assumption) ?_
      rotate_left
      · (intro w hSw; (try dsimp only at hSw); go_simp <;> with_reducible rfl)
      try simp only [Act.put, List.setIfInBounds_toArray, List.set_cons_zero, List.set_cons_succ]
      refine wpAnyH_take (i := 10) (v := ?_) (by simp only [List.getElem?_toArray, List.getElem?_cons_succ, List.getElem?_cons_zero]; rfl) (by kernel_rfl) (by kernel_rfl) (by kernel_rfl) (by intro _ _ _ h; exact h) (Or.inl ⟨by rfl, ?_⟩) (by assumption) ?_
      rotate_left
      · (intro w hSw; (try dsimp only at hSw); go_simp <;> with_reducible rfl)
      try simp only [Act.put, List.setIfInBounds_toArray, List.set_cons_zero, List.set_cons_succ]
      refine wpAnyH_take (i := 11) (v := ?_) (by simp only [List.getElem?_toArray, List.getElem?_cons_succ, List.getElem?_cons_zero]; rfl) (by kernel_rfl) (by kernel_rfl) (by kernel_rfl) (by intro _ _ _ h; exact h) (Or.inl ⟨by rfl, ?_⟩) (by assumption) ?_
      rotate_left
      · (intro w hSw; (try dsimp only at hSw); go_simp <;> with_reducible rfl)
      try simp only [Act.put, List.setIfInBounds_toArray, List.set_cons_zero, List.set_cons_succ]
      refine wpAnyH_take (i := 12) (v := ?_) (by simp only [List.getElem?_toArray, List.getElem?_cons_succ, List.getElem?_cons_zero]; rfl) (by kernel_rfl) (by kernel_rfl) (by kernel_rfl) (by intro _ _ _ h; exact h) (Or.inl ⟨by rfl, ?_⟩) (by assumption) ?_
      rotate_left
      · (intro w hSw; (try dsimp only at hSw); go_simp <;> with_reducible rfl)
      try simp only [Act.put, List.setIfInBounds_toArray, List.set_cons_zero, List.set_cons_succ]
      refine wpAnyH_take (i := 13) (v := ?_) (by simp only [List.getElem?_toArray, List.getElem?_cons_succ, List.getElem?_cons_zero]; rfl) (by kernel_rfl) (by kernel_rfl) (by kernel_rfl) (by intro _ _ _ h; exact h) (Or.inl ⟨by rfl, ?_⟩) (by assumption) ?_
      rotate_left
      · (intro w hSw; (try dsimp only at hSw); go_simp <;> with_reducible rfl)
      try simp only [Act.put, List.setIfInBounds_toArray, List.set_cons_zero, List.set_cons_succ]
      refine wpAnyH_take (i := 14) (v := ?_) (by simp only [List.getElem?_toArray, List.getElem?_cons_succ, List.getElem?_cons_zero]; rfl) (by kernel_rfl) (by kernel_rfl) (by kernel_rfl) (by intro _ _ _ h; exact h) (Or.inl ⟨by rfl, ?_⟩) (by assumption) ?_
      rotate_left
      · (intro w hSw; (try dsimp only at hSw); go_simp <;> with_reducible rfl)
      try simp only [Act.put, List.setIfInBounds_toArray, List.set_cons_zero, List.set_cons_succ]
      refine wpAnyH_take (i := 15) (v := ?_) (by simp only [List.getElem?_toArray, List.getElem?_cons_succ, List.getElem?_cons_zero]; rfl) (by kernel_rfl) (by kernel_rfl) (by kernel_rfl) (by intro _ _ _ h; exact h) (Or.inl ⟨by rfl, ?_⟩) (by assumption) ?_
      rotate_left
      · (intro w hSw; (try dsimp only at hSw); go_simp <;> with_reducible rfl)
      try simp only [Act.put, List.setIfInBounds_toArray, List.set_cons_zero, List.set_cons_succ]
      refine wpAnyH_take (i := 16) (v := ?_) (by simp only [List.getElem?_toArray, List.getElem?_cons_succ, List.getElem?_cons_zero]; rfl) (by kernel_rfl) (by kernel_rfl) (by kernel_rfl) (by intro _ _ _ h; exact h) (Or.inl ⟨by rfl, ?_⟩) (by assumption) ?_
      rotate_left
      · (intro w hSw; (try dsimp only at hSw); go_simp <;> with_reducible rfl)
      try simp only [Act.put, List.setIfInBounds_toArray, List.set_cons_zero, List.set_cons_succ]
      refine wpAnyH_take (i := 17) (v := ?_) (by simp only [List.getElem?_toArray, List.getElem?_cons_succ, List.getElem?_cons_zero]; rfl) (by kernel_rfl) (by kernel_rfl) (by kernel_rfl) (by intro _ _ _ h; exact h) (Or.inl ⟨by rfl, ?_⟩) (by assumption) ?_
      rotate_left
      · (intro w hSw; (try dsimp only at hSw); go_simp <;> with_reducible rfl)
      try simp only [Act.put, List.setIfInBounds_toArray, List.set_cons_zero, List.set_cons_succ]
      refine wpAnyH_take (i := 18) (v := ?_) (by simp only [List.getElem?_toArray, List.getElem?_cons_succ, List.getElem?_cons_zero]; rfl) (by kernel_rfl) (by kernel_rfl) (by kernel_rfl) (by intro _ _ _ h; exact h) (Or.inl ⟨by rfl, ?_⟩) (by assumption) ?_
      rotate_left
      · (intro w hSw; (try dsimp only at hSw); go_simp <;> with_reducible rfl)
      try simp only [Act.put, List.setIfInBounds_toArray, List.set_cons_zero, List.set_cons_succ]
      refine wpAnyH_take (i := 19) (v := ?_) (by simp only [List.getElem?_toArray, List.getElem?_cons_succ, List.getElem?_cons_zero]; rfl) (by kernel_rfl) (by kernel_rfl) (by kernel_rfl) (by intro _ _ _ h; exact h) (Or.inl ⟨by rfl, ?_⟩) (by assumption) ?_
      rotate_left
      · (intro w hSw; (try dsimp only at hSw); go_simp <;> with_reducible rfl)
      try simp only [Act.put, List.setIfInBounds_toArray, List.set_cons_zero, List.set_cons_succ]
      refine wpAnyH_take (i := 20) (v := ?_) (by simp only [List.getElem?_toArray, List.getElem?_cons_succ, List.getElem?_cons_zero]; rfl) (by kernel_rfl) (by kernel_rfl) (by kernel_rfl) (by intro _ _ _ h; exact h) (Or.inl ⟨by rfl, ?_⟩) (by assumption) ?_
      rotate_left
      · (intro w hSw; (try dsimp only at hSw); go_simp <;> with_reducible rfl)
      try simp only [Act.put, List.setIfInBounds_toArray, List.set_cons_zero, List.set_cons_succ]
      refine wpAnyH_take (i := 21) (v := ?_) (by simp only [List.getElem?_toArray, List.getElem?_cons_succ, List.getElem?_cons_zero]; rfl) (by kernel_rfl) (by kernel_rfl) (by kernel_rfl) (by intro _ _ _ h; exact h) (Or.inl ⟨by rfl, ?_⟩) (by assumption) ?_
      rotate_left
      · (intro w hSw; (try dsimp only at hSw); go_simp <;> with_reducible rfl)
      try simp only [Act.put, List.setIfInBounds_toArray, List.set_cons_zero, List.set_cons_succ]
      refine wpAnyH_take (i := 22) (v := ?_) (by simp only [List.getElem?_toArray, List.getElem?_cons_succ, List.getElem?_cons_zero]; rfl) (by kernel_rfl) (by kernel_rfl) (by kernel_rfl) (by intro _ _ _ h; exact h) (Or.inl ⟨by rfl, ?_⟩) (by assumption) ?_
      rotate_left
      · (intro w hSw; (try dsimp only at hSw); go_simp <;> with_reducible rfl)
      try simp only [Act.put, List.setIfInBounds_toArray, List.set_cons_zero, List.set_cons_succ]
      refine wpAnyH_take (i := 23) (v := ?_) (by simp only [List.getElem?_toArray, List.getElem?_cons_succ, List.getElem?_cons_zero]; rfl) (by kernel_rfl) (by kernel_rfl) (by kernel_rfl) (by intro _ _ _ h; exact h) (Or.inl ⟨by rfl, ?_⟩) (by assumption) ?_
      rotate_left
      · (intro w hSw; (try dsimp only at hSw); go_simp <;> with_reducible rfl)
      try simp only [Act.put, List.setIfInBounds_toArray, List.set_cons_zero, List.set_cons_succ]
      refine wpAnyH_take (i := 24) (v := ?_) (by simp only [List.getElem?_toArray, List.getElem?_cons_succ, List.getElem?_cons_zero]; rfl) (by kernel_rfl) (by kernel_rfl) (by kernel_rfl) (by intro _ _ _ h; exact h) (Or.inl ⟨by rfl, ?_⟩) (by assumption) ?_
      rotate_left
      · (intro w hSw; (try dsimp only at hSw); go_simp <;> with_reducible rfl)
      try simp only [Act.put, List.setIfInBounds_toArray, List.set_cons_zero, List.set_cons_succ]
      refine wpAnyH_take (i := 25) (v := ?_) (by simp only [List.getElem?_toArray, List.getElem?_cons_succ, List.getElem?_cons_zero]; rfl) (by kernel_rfl) (by kernel_rfl) (by kernel_rfl) (by intro _ _ _ h; exact h) (Or.inl ⟨by rfl, ?_⟩) (by assumption) ?_
      rotate_left
      · (intro w hSw; (try dsimp only at hSw); go_simp <;> with_reducible rfl)
      try simp only [Act.put, List.setIfInBounds_toArray, List.set_cons_zero, List.set_cons_succ]
      refine wpAnyH_take (i := 26) (v := ?_) (by simp only [List.getElem?_toArray, List.getElem?_cons_succ, List.getElem?_cons_zero]; rfl) (by kernel_rfl) (by kernel_rfl) (by kernel_rfl) (by intro _ _ _ h; exact h) (Or.inl ⟨by rfl, ?_⟩) (by assumption) ?_
      rotate_left
      · (intro w hSw; (try dsimp only at hSw); go_simp <;> with_reducible rfl)
      try simp only [Act.put, List.setIfInBounds_toArray, List.set_cons_zero, List.set_cons_succ]
      refine wpAnyH_take (i := 27) (v := ?_) (by simp only [List.getElem?_toArray, List.getElem?_cons_succ, List.getElem?_cons_zero]; rfl) (by kernel_rfl) (by kernel_rfl) (by kernel_rfl) (by intro _ _ _ h; exact h) (Or.inl ⟨by rfl, ?_⟩) (by assumption) ?_
      rotate_left
      · (intro w hSw; (try dsimp only at hSw); go_simp <;> with_reducible rfl)
      try simp only [Act.put, List.setIfInBounds_toArray, List.set_cons_zero, List.set_cons_succ]
      refine wpAnyH_ready (rs := [28]) (by kernel_rfl) (by simp) ?_
      refine AllReadyH.cons (by simp only [List.getElem?_toArray, List.getElem?_cons_succ, List.getElem?_cons_zero]; rfl) (fun K hK => ?_) AllReadyH.nil
      go_simp
      have hN0 : (wr.alloc (Obj.cells #[.int .u8 0, .int .u8 0, .int .u8 0, .int .u8 0] 100)).drew.heap[wr.heap.size]? = some (.cells #[.int .u8 0, .int .u8 0, .int .u8 0, .int .u8 0] 100 (0, 0)) := heap_alloc_new wr _
      have u2 : Up wr (wr.alloc (Obj.cells #[.int .u8 0, .int .u8 0, .int .u8 0, .int .u8 0] 100)).drew := ((Up.refl wr).alloc _).drew
      have hg : wr.heap.size ≤ wr.heap.size := Nat.le_refl _
      generalize World.drew _ = w2 at hN0 u2 ⊢
      refine hK.out _ _ ?_ (fun hHeld => ?_)
      · (try dsimp only); exact HK.out _ (M0.out.1.up u2)
      clear hK K
      try simp only [Act.put, List.setIfInBounds_toArray, List.set_cons_zero, List.set_cons_succ]
      refine wpAnyH_ready (rs := [29]) (by kernel_rfl) (by simp) ?_
      refine AllReadyH.cons (by simp only [List.getElem?_toArray, List.getElem?_cons_succ, List.getElem?_cons_zero]; rfl) (fun K hK => ?_) AllReadyH.nil
      rw [if_pos (by rfl)]
      refine wp_store_mid 100 _ _ rfl wr.heap.size 0 #[.int .u8 S.row, .int .u8 S.col, .int .u8 S.tile, .int .u8 S.flg] rfl rfl (there4 hN0) (by kernel_rfl) (by simp [Value.oneCell']) ?_
      have h5 := set4 (x' := .int .u8 S.row) (y' := .int .u8 S.col) (z' := .int .u8 S.tile) (t' := .int .u8 S.flg) hN0
      have u5 : Up wr (w2.setCells wr.heap.size 0 [.int .u8 S.row, .int .u8 S.col, .int .u8 S.tile, .int .u8 S.flg]) := up_setCells (Nat.le_refl _) u2 _ _
      refine hK.out _ _ ?_ (fun _ => ?_)
      · (try dsimp only); exact HK.out _ (M0.out.1.up u5)
      clear hK K
      simp only [Act.put]
      refine wpAnyH_done (by kernel_rfl) ?_ _
      have H5 : Hid ((w2.setCells wr.heap.size 0 [.int .u8 S.row, .int .u8 S.col, .int .u8 S.tile, .int .u8 S.flg]).heap[wr.heap.size]? = some (.cells #[.int .u8 S.row, .int .u8 S.col, .int .u8 S.tile, .int .u8 S.flg] 100 (0, 0)) ∧ Up wr (w2.setCells wr.heap.size 0 [.int .u8 S.row, .int .u8 S.col, .int .u8 S.tile, .int .u8 S.flg])) := ⟨h5, u5⟩
      clear h5 hN0 u2 u5 hg hHeld
      generalize World.setCells w2 _ _ _ = w3 at H5 ⊢
      generalize wr.heap.size = sk at H5 ⊢
      have M3 : Hid (PxAt w3 b p ∧ LsAt w3 lb (p.found j) ∧ Fr lb W w3) := ⟨M0.out.1.up H5.out.2, M0.out.2.1.of_block (H5.out.2.block _ M0.out.2.1.lt), M0.out.2.2.trans (Fr.ofUp H5.out.2)⟩
      have HB : Hid (w3.heap[sk]? = some (.cells #[.int .u8 S.row, .int .u8 S.col, .int .u8 S.tile, .int .u8 S.flg] 100 (0, 0))) := H5.out.1
      have HRg : Hid (∀ w', Up w3 w' → w'.rangeAt sk 0 [.int .u8 S.row, .int .u8 S.col, .int .u8 S.tile, .int .u8 S.flg]) := fun w' u => range4 ((u.block sk (Array.getElem?_eq_some_iff.1 HB.out).1).trans HB.out)
      have HR0 : Hid _ := HRg.out _ (Up.refl w3)
      have HRo : Hid _ := HRow.out S w3 (by rw [HSp.out]; exact Pic.spr_in HI.out j) M3.out.1
      clear H5 M0
      unfold Spr.val at HRo
      go_wp2_with (refine wpList_load_mid rfl 100 _ rfl sk 0 rfl [.int .u8 S.row, .int .u8 S.col, .int .u8 S.tile, .int .u8 S.flg] _ HR0.out Try.underlying100 rfl (by kernel_rfl) ?_)
      refine Calls.mono HRo.out ?_
      rintro e w4 ⟨rfl, u4⟩
      have M4 : Hid (PxAt w4 b p ∧ LsAt w4 lb (p.found j) ∧ Fr lb W w4) := ⟨M3.out.1.up u4, M3.out.2.1.of_block (u4.block _ M3.out.2.1.lt), M3.out.2.2.trans (Fr.ofUp u4)⟩
      have HR4 : Hid _ := HRg.out _ u4
      clear u4 M3 HRo HR0 HB HRg
      have HO : Hid (p.onLine (p.spr j) = (decide (0 ≤ p.rg 4 + 16 - S.row) && decide (p.rg 4 + 16 - S.row < p.sprH))) := by rw [HSp.out]; rfl
      have HH4 : Hid _ := HH.out _ M4.out.1
      generalize p.rg 4 + 16 - S.row = Q at *
      generalize p.sprH = Hh at *
      by_cases q0 : 0 ≤ Q
      · have e0 : decide (0 ≤ Q) = true := decide_eq_true q0
        by_cases q1 : Q < Hh
        · have e1 : decide (Q < Hh) = true := decide_eq_true q1
          have HYes : Hid ((p.found j).length < 10 ∧ p.onLine (p.spr j) = true) := ⟨by have := HJ.out; have := hn.out; omega, by rw [HO.out, e0, e1]; rfl⟩
          go_wp2_with fail
          refine Calls.mono HH4.out ?_
          rintro e w' ⟨rfl, hw'⟩
          obtain rfl := hw'.symm
          have HW5 : Hid (PxAt (w4.alloc (Obj.cells #[.int .u8 S.row, .int .u8 S.col, .int .u8 S.tile, .int .u8 S.flg] 100)) b p ∧ LsAt (w4.alloc (Obj.cells #[.int .u8 S.row, .int .u8 S.col, .int .u8 S.tile, .int .u8 S.flg] 100)) lb (p.found j) ∧ Fr lb W (w4.alloc (Obj.cells #[.int .u8 S.row, .int .u8 S.col, .int .u8 S.tile, .int .u8 S.flg] 100))) := ⟨M4.out.1.up ((Up.refl _).alloc _), M4.out.2.1.of_block (((Up.refl _).alloc _).block _ M4.out.2.1.lt), M4.out.2.2.trans (Fr.ofUp ((Up.refl _).alloc _))⟩
          have HN5 : Hid ((w4.alloc (Obj.cells #[.int .u8 S.row, .int .u8 S.col, .int .u8 S.tile, .int .u8 S.flg] 100)).rangeAt w4.heap.size 0 [.int .u8 S.row, .int .u8 S.col, .int .u8 S.tile, .int .u8 S.flg]) := range4 (heap_alloc_new w4 _)
          have HP5 : Hid (PxAt ((w4.alloc (Obj.cells #[.int .u8 S.row, .int .u8 S.col, .int .u8 S.tile, .int .u8 S.flg] 100)).setCells lb (0 + n * 4) [.int .u8 S.row, .int .u8 S.col, .int .u8 S.tile, .int .u8 S.flg]) b p ∧ LsAt ((w4.alloc (Obj.cells #[.int .u8 S.row, .int .u8 S.col, .int .u8 S.tile, .int .u8 S.flg] 100)).setCells lb (0 + n * 4) [.int .u8 S.row, .int .u8 S.col, .int .u8 S.tile, .int .u8 S.flg]) lb (p.found (j + 1)) ∧ Fr lb W ((w4.alloc (Obj.cells #[.int .u8 S.row, .int .u8 S.col, .int .u8 S.tile, .int .u8 S.flg] 100)).setCells lb (0 + n * 4) [.int .u8 S.row, .int .u8 S.col, .int .u8 S.tile, .int .u8 S.flg])) := by
            refine ⟨HW5.out.1.ofB (setCells_other _ (fun e => hlb e.symm) _ _), ?_, fr_setCells HW5.out.2.2 _ _⟩
            show LsAt _ lb (if _ then p.found j ++ [p.spr j] else _)
            rw [if_pos HYes.out, ← HSp.out, hn.out]
            exact HW5.out.2.1.push HYes.out.1 S
          have HN6 : Hid (n + 1 = (p.found (j + 1)).length) := by
            show n + 1 = (if _ then p.found j ++ [p.spr j] else p.found j).length
            rw [if_pos HYes.out, List.length_append, hn.out]
            rfl
          have HJ9 : Hid (n < 10) := HJ.out.2
          go_wp2_with (first
            | (refine wpList_load_mid rfl 100 _ rfl sk 0 rfl [.int .u8 S.row, .int .u8 S.col, .int .u8 S.tile, .int .u8 S.flg] _ HR4.out Try.underlying100 rfl (by kernel_rfl) ?_)
            | (refine wpList_push rfl _ _ rfl lb n rfl w4.heap.size 1 rfl [.int .u8 S.row, .int .u8 S.col, .int .u8 S.tile, .int .u8 S.flg] rfl HN5.out (by simp [Value.oneCell']) HJ9.out (fun k hk => HW5.out.2.1.spare k hk) ?_; generalize World.setCells (World.alloc w4 _) _ _ _ = w5 at HP5 ⊢))
          refine ⟨⟨j + 1, n + 1, by have := HJ.out; omega, ?_, rfl, HN6, HP5⟩, ?_⟩
          · congr 1; have := HA.out; omega
          · simp [intOf]
            have := HA.out
            have := HJ.out
            omega
        · have e1 : decide (Q < Hh) = false := decide_eq_false q1
          have HNo : Hid (¬ ((p.found j).length < 10 ∧ p.onLine (p.spr j) = true)) := fun h => by have := h.2; rw [HO.out, e0, e1] at this; exact absurd this (by decide)
          go_wp2_with fail
          refine Calls.mono HH4.out ?_
          rintro e w' ⟨rfl, hw'⟩
          obtain rfl := hw'.symm
          go_wp2_with fail
          refine ⟨⟨j + 1, n, by have := HJ.out; omega, ?_, rfl, ?_, M4.out.1, ?_, M4.out.2.2⟩, ?_⟩
          · congr 1; have := HA.out; omega
          · show n = (if _ then _ else p.found j).length; rw [if_neg HNo.out]; exact hn.out
          · show LsAt w4 lb (if _ then _ else p.found j); rw [if_neg HNo.out]; exact M4.out.2.1
          · simp [intOf]
            have := HA.out
            have := HJ.out
            omega
      · have e0 : decide (0 ≤ Q) = false := decide_eq_false q0
        have HNo : Hid (¬ ((p.found j).length < 10 ∧ p.onLine (p.spr j) = true)) := fun h => by have := h.2; rw [HO.out, e0] at this; exact absurd this (by simp)
        go_wp2_with fail
        refine ⟨⟨j + 1, n, by have := HJ.out; omega, ?_, rfl, ?_, M4.out.1, ?_, M4.out.2.2⟩, ?_⟩
        · congr 1; have := HA.out; omega
        · show n = (if _ then _ else p.found j).length; rw [if_neg HNo.out]; exact hn.out
        · show LsAt w4 lb (if _ then _ else p.found j); rw [if_neg HNo.out]; exact M4.out.2.1
        · simp [intOf]
          have := HA.out
          have := HJ.out
          omega
    · have HJ : Hid (¬ (j < 40 ∧ n < 10)) := hgo
      have HE : Hid (p.found N = p.found j) := by
        show _ = _
        have := HNN.out
        by_cases hj4 : j = 40
        · rw [hj4, ← this]
        · have h10 : (p.found j).length = 10 := by have := hn.out; omega
          have := p.found_full j h10 (N - j)
          rw [show j + (N - j) = N by omega] at this
          exact this
      by_cases hj4 : j < 40
      · have d1 : decide ((A : Int) < 160) = true := decide_eq_true (by omega)
        have d2 : decide ((n : Int) < 10) = false := decide_eq_false (by omega)
        clear hA hgo
        go_wp2_with fail
        go_ret
        exact ⟨by show Ending.returned (.slice (some ⟨lb, 0, none⟩) n 10) = _; rw [HE.out, ← hn.out], by rw [HE.out]; exact M0.out.2.1, M0.out.2.2⟩
      · have d1 : decide ((A : Int) < 160) = false := decide_eq_false (by omega)
        clear hA hgo
        go_wp2_with fail
        go_ret
        exact ⟨by show Ending.returned (.slice (some ⟨lb, 0, none⟩) n 10) = _; rw [HE.out, ← hn.out], by rw [HE.out]; exact M0.out.2.1, M0.out.2.2⟩
end Go.Proofs.Ytmjfccdhjhkocaa
