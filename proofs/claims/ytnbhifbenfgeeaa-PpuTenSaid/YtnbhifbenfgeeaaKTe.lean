/- Ten sprites, and more: the tables, and their frames. -/
import Derived.Test.YtnbhifbenfgeeaaPsS
import Derived.Laws.AppendOwn
import Derived.Laws.BytesArg
namespace Go.Proofs.Ytnbhifbenfgeeaa
open Go.RowKit
set_option linter.unusedVariables false
variable {b : Nat} {p : Pic}
theorem putB_addr {V : Nat → Int} {P Q : Pce} (h1 : P.at' = Q.at') (h2 : P.f = Q.f) : ∀ n, putB V P n = putB V Q n := by
  intro n
  induction n with
  | zero => rfl
  | succ n ih =>
    funext j
    show (if 32768 + (j : Int) = spotI P.at' n then P.f n else putB V P n j) = if 32768 + (j : Int) = spotI Q.at' n then Q.f n else putB V Q n j
    rw [h1, h2, ih]
/-- memory that holds one tile -/
def loneV (G : Nat → Int) : Nat → Int := putB (fun _ => 0) ⟨16, none, 0, 0, 16, 16, G⟩ 16
theorem tenShot_any {M : Nat} (hM : M = 40) {w : World} {rg pb tb ob oo ol oc : Nat} {oa : Option Addr} {F G : Nat → Int} {ty : TypeId} (hG : ∀ m, 0 ≤ G m ∧ G m ≤ 255)
    (R : RgAt w rg loneR) (N : NmAt w tb 16 G) (hp : w.heap[pb]? = some (.cells #[.int .i64 16, .slice (some ⟨tb, 0, none⟩) 16 16] ty (0, 0))) (ho : Byts w oa ob oo ol oc F) :
    Calls Try.prog 26 #[.agg #[.slice (some ⟨rg, 0, none⟩) 12 12, .slice oa ol oc, .slice (some ⟨pb, 0, none⟩) 1 1]] w fun e w' => ∃ g, e = .returned (.tuple #[.slice (some ⟨g, 0, none⟩) 23040 23040, .bool true]) ∧ w.heap.size ≤ g ∧ NmAt w' g 23040 (fun i => ptT M (loneV G) (oamTo F ol 160) loneR (i / 160) (i % 160)) ∧ Up w w' := by
  have lp : pb < w.heap.size := (Array.getElem?_eq_some_iff.1 hp).1
  have eV : putP (fun _ => (⟨16, some ⟨tb, 0, none⟩, tb, 0, 16, 16, G⟩ : Pce)) 1 = loneV G := putB_addr (P := ⟨16, some ⟨tb, 0, none⟩, tb, 0, 16, 16, G⟩) (Q := ⟨16, none, 0, 0, 16, 16, G⟩) rfl rfl 16
  refine shotO_any (ob := ob) (oo := oo) (F := F) (pb := pb) (po := 0) (P := fun _ => ⟨16, some ⟨tb, 0, none⟩, tb, 0, 16, 16, G⟩) loneR_i64 (fun w' u i hi => (R.up u).cell i hi) (fun w' u => ho.upS u) (fun w' u => ?_) (fun b q h => ⟨fun z => z.lineT M, ?_⟩)
  · have h2 := (u.block pb lp).trans hp
    refine ⟨by decide, by decide, fun _ => rfl, fun i => (show I64 16 by unfold I64; decide), fun i hi => ?_, fun i hi => ?_, fun i hi => (N.of_block (u.block _ N.lt)).byts (by decide) hG⟩
    · obtain rfl : i = 0 := by omega
      rw [cell_of_row _ _ _ _ _ _ h2]
      rfl
    · obtain rfl : i = 0 := by omega
      rw [cell_of_row _ _ _ _ _ _ h2]
      rfl
  · rw [eV] at h
    have hrg : ∀ j, q.rg j = regsTo loneR 0 j := fun j => by rw [h.rg]
    have e0 : q.rg 0 = 130 := (hrg 0).trans (by decide)
    exact linT hM b q h (by unfold Pic.has; rw [e0]; decide) (by unfold Pic.has; rw [e0]; decide) (by unfold Pic.has; rw [e0]; decide) (by unfold Pic.has; rw [e0]; decide)
def colsOf (len : Nat) (f : Nat → Int) (i : Nat) : Int := if i < len then f i else 0
/-- the table of ten -/
def tenF (r : Int) (C : Nat → Int) (k : Nat) : Int := if k % 4 = 0 then r else if k % 4 = 1 then C (k / 4) else if k % 4 = 2 then 1 else 0
def allF (r : Int) (C Y : Nat → Int) (k : Nat) : Int := if k < 40 then tenF r C k else if k % 4 = 0 then r else if k % 4 = 1 then Y (k / 4 - 10) else if k % 4 = 2 then 1 else 16
theorem tenF_b {r : Int} {C : Nat → Int} (hr : 0 ≤ r ∧ r ≤ 255) (hC : ∀ k, 0 ≤ C k ∧ C k ≤ 255) (k : Nat) : 0 ≤ tenF r C k ∧ tenF r C k ≤ 255 := by
  unfold tenF
  split
  · exact hr
  · split
    · exact hC _
    · split <;> decide
theorem allF_b {r : Int} {C Y : Nat → Int} (hr : 0 ≤ r ∧ r ≤ 255) (hC : ∀ k, 0 ≤ C k ∧ C k ≤ 255) (hY : ∀ k, 0 ≤ Y k ∧ Y k ≤ 255) (k : Nat) : 0 ≤ allF r C Y k ∧ allF r C Y k ≤ 255 := by
  unfold allF
  split
  · exact tenF_b hr hC k
  · split
    · exact hr
    · split
      · exact hY _
      · split <;> decide
theorem ten_all {M : Nat} (hM : M = 40) (G : Nat → Int) (r : Int) (C Y : Nat → Int) (n : Nat) (l x : Nat) : ptT M (loneV G) (oamTo (tenF r C) 40 160) loneR l x = ptT M (loneV G) (oamTo (allF r C Y) (40 + 4 * n) 160) loneR l x := by
  refine ten_same hM (r := r) (fun l => ?_) (fun k hk => ?_) (fun j hj => ?_) (fun j h1 h2 => ?_) (fun j h1 h2 => ?_) l x
  · have h4 : (linePic (loneV G) (oamTo (tenF r C) 40 160) loneR l).has 4 = false := by
      unfold Pic.has
      show (bits .and .u8 (regsTo loneR 0 0) 4 != 0) = false
      decide
    unfold Pic.sprH
    rw [h4]
    rfl
  · unfold oamTo
    rw [if_pos ⟨by omega, hk⟩, if_pos ⟨by omega, by omega⟩]
    unfold allF
    rw [if_pos hk]
  · unfold oamTo
    rw [if_pos ⟨by omega, by omega⟩]
    unfold tenF
    rw [if_pos (by omega)]
  · refine Or.inr ?_
    unfold oamTo
    rw [if_neg (by omega)]
  · unfold oamTo
    by_cases e : 4 * j < 40 + 4 * n
    · refine Or.inl ?_
      rw [if_pos ⟨by omega, e⟩]
      unfold allF
      rw [if_neg (by omega), if_pos (by omega)]
    · refine Or.inr ?_
      rw [if_neg (by omega)]
/-- a row of bytes as a list of values -/
def rowL (F : Nat → Int) (n : Nat) : List Value := (List.range n).map fun k => .int .u8 (F k)
theorem rowL_len (F : Nat → Int) (n : Nat) : (rowL F n).length = n := by unfold rowL; simp
theorem rowL_succ (F : Nat → Int) (n : Nat) : rowL F (n + 1) = rowL F n ++ [.int .u8 (F n)] := by
  unfold rowL
  rw [List.range_succ, List.map_append]
  rfl
theorem rowL_four (F : Nat → Int) (n : Nat) : rowL F (n + 4) = rowL F n ++ [.int .u8 (F n), .int .u8 (F (n + 1)), .int .u8 (F (n + 2)), .int .u8 (F (n + 3))] := by
  rw [show n + 4 = n + 1 + 1 + 1 + 1 by omega, rowL_succ, rowL_succ, rowL_succ, rowL_succ]
  simp [List.append_assoc]
theorem rowL_at (F : Nat → Int) (n k : Nat) (h : k < n) : (rowL F n)[k]? = some (.int .u8 (F k)) := by
  unfold rowL
  rw [List.getElem?_map, List.getElem?_range h]
  rfl
theorem rowL_one (F : Nat → Int) (n : Nat) : ∀ v ∈ rowL F n, v.oneCell' = true := by
  intro v hv
  unfold rowL at hv
  obtain ⟨k, _, rfl⟩ := List.mem_map.1 hv
  rfl
theorem rowL_congr {F H : Nat → Int} (n : Nat) (h : ∀ k, k < n → F k = H k) : rowL F n = rowL H n := by
  unfold rowL
  apply List.map_congr_left
  intro k hk
  rw [h k (List.mem_range.1 hk)]
/-- a row of one's own is a slice of bytes -/
theorem own_byts {w : World} {base n : Nat} {v : Value} {F : Nat → Int} (h : w.ownsRow base 5 1 v n (rowL F n)) (hF : ∀ k, 0 ≤ F k ∧ F k ≤ 255) : ∃ oa ob oc, v = .slice oa n oc ∧ Byts w oa ob 0 n oc F ∧ (0 < n → base ≤ ob ∧ oa = some ⟨ob, 0, none⟩ ∧ v.ownBlock = some ob) := by
  rcases h.2 with ⟨hv, hn⟩ | ⟨g, cap, cur, hv, hb, hg, hc, hm, hs, ht⟩
  · subst hn
    exact ⟨none, 0, 0, hv, ⟨Nat.le_refl _, Nat.zero_le _, fun h => absurd h (by decide), hF, fun k hk => absurd hk (by omega)⟩, fun h => absurd h (by decide)⟩
  · refine ⟨some ⟨g, 0, none⟩, g, cap, hv, ⟨hc, hm, fun _ => rfl, hF, fun k hk => ?_⟩, fun _ => ⟨hb, rfl, by rw [hv]; rfl⟩⟩
    have := h.cells (g := g) (by rw [hv]; rfl) k _ (rowL_at F n k hk)
    rw [Addr.add_lit] at this
    exact this
/-- a row of one's own behind some world -/
structure Ow (W : World) (F : Nat → Int) (n : Nat) (v : Value) (w : World) : Prop where
  own : w.ownsRow W.heap.size 5 1 v n (rowL F n)
  up : Up W w
theorem Ow.app {W w w' : World} {F : Nat → Int} {n m : Nat} {v v' : Value} {o : Obj} (h : Ow W F n v w) (hg : (w.alloc o).grownBy w' v.ownBlock) (ho : w'.ownsRow W.heap.size 5 1 v' m (rowL F m)) : Ow W F m v' w' := by
  have u : Up w (w.alloc o) := (Up.refl w).alloc o
  refine ⟨ho, ⟨hg.os.trans h.up.os, hg.output.trans h.up.output, Nat.le_trans h.up.size (Nat.le_trans u.size hg.size), fun k hk => ?_⟩⟩
  have hk2 := Nat.lt_of_lt_of_le hk h.up.size
  refine (hg.block k (Nat.lt_of_lt_of_le hk2 u.size) (fun e => ?_)).trans ((u.block k hk2).trans (h.up.block k hk))
  have := (h.own.lt k e.symm).1
  omega
theorem Ow.alloc {W w : World} {F : Nat → Int} {n : Nat} {v : Value} (h : Ow W F n v w) (o : Obj) : Ow W F n v (w.alloc o) := ⟨h.own.alloc o, h.up.alloc o⟩
def strT (n : Nat) (f : Nat → Int) : ByteArray := strOfNums ((List.range' 0 n).map f)
theorem NmAt.convT {w : World} {g n : Nat} {f : Nat → Int} (h : NmAt w g n f) (c : Nat) : (convert 23 9 (.slice (some ⟨g, 0, none⟩) n c)).run Try.prog w = .ok (.string (strT n f)) w := by
  refine run_convert_bytes_arg w 23 5 Try.underlying23 Try.underlying5 g 0 n c ((List.range' 0 n).map f) (by rw [List.length_map, List.length_range']) (fun i hi => ?_) 9 Try.underlying9
  rw [Nat.zero_add, h.cell i hi]
  congr 2
  unfold List.getD
  rw [List.getElem?_map, List.getElem?_range' hi]
  simp
end Go.Proofs.Ytnbhifbenfgeeaa
