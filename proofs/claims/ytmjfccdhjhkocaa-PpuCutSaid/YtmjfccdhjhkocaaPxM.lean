/- Rows of bytes beside a picture. -/
import Derived.Test.YtmjfccdhjhkocaaPxG
import Derived.Deep.OwnRows
namespace Go.Proofs.Ytmjfccdhjhkocaa
open Go.RowKit
set_option linter.unusedVariables false
variable {b : Nat} {p : Pic}
def I64 (x : Int) : Prop := -9223372036854775808 ≤ x ∧ x ≤ 9223372036854775807
theorem pick_any (c n : Int) (w : World) (hc : I64 c) (hn : 0 < n) (hn2 : n ≤ 1099511627776) :
    Calls Try.prog 19 #[.int .i64 c, .int .i64 n] w fun e w' => e = .returned (.int .i64 (pickI c n)) ∧ w' = w := by
  obtain ⟨hc1, hc2⟩ := hc
  by_cases h : c < 0
  · go_enter Try.func19, Try.ntmps19
    go_wp2
    go_ret
    exact ⟨ret1 (by unfold pickI; rw [if_pos h, ← Int.neg_tmod, Int.tmod_eq_emod_of_nonneg (by omega)]), rfl⟩
  · go_enter Try.func19, Try.ntmps19
    go_wp2
    go_ret
    exact ⟨ret1 (by unfold pickI; rw [if_neg (by omega)]), rfl⟩
/-- a row of n bytes -/
structure RwAt (w : World) (g n : Nat) (f : Nat → Int) : Prop where
  row : ∃ cs, w.heap[g]? = some (.cells cs 5 (0, 0)) ∧ cs.size = n ∧ ∀ k, k < n → cs[k]? = some (.int .u8 (f k))
theorem RwAt.lt {w : World} {g n : Nat} {f : Nat → Int} (h : RwAt w g n f) : g < w.heap.size := by
  obtain ⟨cs, h1, _⟩ := h.row
  exact (Array.getElem?_eq_some_iff.1 h1).1
theorem RwAt.cell {w : World} {g n : Nat} {f : Nat → Int} (h : RwAt w g n f) (k : Nat) (hk : k < n) : w.cell? ⟨g, k, none⟩ = some (.int .u8 (f k)) := by
  obtain ⟨cs, h1, h2, h3⟩ := h.row
  rw [cell_of_row _ _ _ _ _ _ h1]
  exact h3 k hk
theorem RwAt.fz {w : World} {g n : Nat} {f : Nat → Int} (h : RwAt w g n f) (k : Nat) : w.frozen? ⟨g, k, none⟩ = false := by
  obtain ⟨cs, h1, _⟩ := h.row
  simp [World.frozen?, h1]
theorem RwAt.of_block {w w' : World} {g n : Nat} {f : Nat → Int} (h : RwAt w g n f) (e : w'.heap[g]? = w.heap[g]?) : RwAt w' g n f := by
  obtain ⟨cs, h1, h2⟩ := h.row
  exact ⟨cs, e.trans h1, h2⟩
theorem RwAt.set {w : World} {g n : Nat} {f : Nat → Int} (h : RwAt w g n f) (i : Nat) (hi : i < n) (x : Int) : RwAt (w.setCell ⟨g, i, none⟩ (.int .u8 x)) g n (fun k => if k = i then x else f k) := by
  obtain ⟨cs, h1, h2, h3⟩ := h.row
  refine ⟨cs.setIfInBounds i (.int .u8 x), heap_setCell_same w g i _ _ _ h1, by simp [h2], fun j hj => ?_⟩
  rw [Array.getElem?_setIfInBounds]
  by_cases e : j = i
  · subst e
    rw [if_pos rfl, if_pos (by omega), if_pos rfl]
  · rw [if_neg (fun e' => e e'.symm), if_neg e]
    exact h3 j hj
theorem PxAt.of_block {w w' : World} (h : PxAt w b p) (e : w'.heap[b]? = w.heap[b]?) : PxAt w' b p := by
  obtain ⟨cs, h1, h2⟩ := h.row
  exact ⟨cs, e.trans h1, h2⟩
theorem made_row (w : World) (n : Nat) : RwAt (w.alloc (.cells (madeCells #[.int .u8 0] n) 5)) w.heap.size n (fun _ => 0) := by
  refine ⟨_, heap_alloc_new w _, by simp [madeCells], fun k hk => ?_⟩
  simp [madeCells, hk, Nat.mod_one]
/-- a picture that is off, and two rows that say what its memory holds -/
structure Mb (W0 : World) (b gv go : Nat) (p : Pic) (W : World) : Prop where
  up : Up W0 W
  nb : W0.heap.size ≤ b
  nv : W0.heap.size ≤ gv
  no : W0.heap.size ≤ go
  d1 : b ≠ gv
  d2 : b ≠ go
  d3 : gv ≠ go
  px : PxAt W b p
  rv : RwAt W gv 8192 p.vr
  ro : RwAt W go 160 p.oa
  inn : p.In
  off : p.has 128 = false
  ly : p.rg 4 = 0
theorem off_mode (h : p.has 128 = false) (a : Int) : p.locked a = false := by
  unfold Pic.locked Pic.mode
  rw [if_pos h]
  rfl
theorem Pic.In.setV (h : p.In) (n : Nat) (x : Int) (hx : 0 ≤ x ∧ x ≤ 255) : (p.setV n x).In := ⟨fun k => by show 0 ≤ (if k = n then x else p.vr k) ∧ (if k = n then x else p.vr k) ≤ 255; split; exact hx; exact h.vr k, h.oa, h.rg⟩
theorem Pic.In.setO (h : p.In) (n : Nat) (x : Int) (hx : 0 ≤ x ∧ x ≤ 255) : (p.setO n x).In := ⟨h.vr, fun k => by show 0 ≤ (if k = n then x else p.oa k) ∧ (if k = n then x else p.oa k) ≤ 255; split; exact hx; exact h.oa k, h.rg⟩
theorem Pic.In.setR (h : p.In) (n : Nat) (x : Int) (hx : 0 ≤ x ∧ x ≤ 255) : (p.setR n x).In := ⟨h.vr, h.oa, fun k => by show 0 ≤ (if k = n then x else p.rg k) ∧ (if k = n then x else p.rg k) ≤ 255; split; exact hx; exact h.rg k⟩
theorem zeroPic_in : zeroPic.In := ⟨fun _ => show (0 : Int) ≤ 0 ∧ (0 : Int) ≤ 255 by decide, fun _ => show (0 : Int) ≤ 0 ∧ (0 : Int) ≤ 255 by decide, fun _ => show (0 : Int) ≤ 0 ∧ (0 : Int) ≤ 255 by decide⟩
theorem newPic_in : newPic.In := (((((((((((zeroPic_in.setR 0 145 (by decide)).setR 1 0 (by decide)).setR 2 0 (by decide)).setR 3 0 (by decide)).setR 4 0 (by decide)).setR 5 0 (by decide)).setR 6 0 (by decide)).setR 7 252 (by decide)).setR 8 255 (by decide)).setR 9 255 (by decide)).setR 10 0 (by decide)).setR 11 0 (by decide)
theorem offPic_in : offPic.In := by
  have h := (newPic_in.setR 0 0 (by decide)).setR 4 0 (by decide)
  exact ⟨h.vr, h.oa, h.rg⟩
/-- one byte, in the picture and in its row -/
theorem Mb.wroteV {W0 W w' : World} {gv go : Nat} (h : Mb W0 b gv go p W) (n : Nat) (hn : n < 8192) (x : Int) (hx : 0 ≤ x ∧ x ≤ 255) (hp : PxAt w' b (p.setV n x)) (f : Fr b W w') : Mb W0 b gv go (p.setV n x) (w'.setCell ⟨gv, n, none⟩ (.int .u8 x)) := by
  have e1 : w'.heap[gv]? = W.heap[gv]? := f.block gv h.rv.lt (fun e => h.d1 e.symm)
  have e2 : w'.heap[go]? = W.heap[go]? := f.block go h.ro.lt (fun e => h.d2 e.symm)
  have hb := h.nb
  have hv := h.nv
  refine ⟨(Fr.up h.up h.nb f).setCell h.nv _, h.nb, h.nv, h.no, h.d1, h.d2, h.d3, hp.of_block (Below.heap_setCell _ _ _ _ h.d1), ?_, (h.ro.of_block e2).of_block (Below.heap_setCell _ _ _ _ (fun e => h.d3 e.symm)), h.inn.setV n x hx, h.off, h.ly⟩
  exact (h.rv.of_block e1).set n hn x
theorem Mb.wroteO {W0 W w' : World} {gv go : Nat} (h : Mb W0 b gv go p W) (n : Nat) (hn : n < 160) (x : Int) (hx : 0 ≤ x ∧ x ≤ 255) (hp : PxAt w' b (p.setO n x)) (f : Fr b W w') : Mb W0 b gv go (p.setO n x) (w'.setCell ⟨go, n, none⟩ (.int .u8 x)) := by
  have e1 : w'.heap[gv]? = W.heap[gv]? := f.block gv h.rv.lt (fun e => h.d1 e.symm)
  have e2 : w'.heap[go]? = W.heap[go]? := f.block go h.ro.lt (fun e => h.d2 e.symm)
  refine ⟨(Fr.up h.up h.nb f).setCell h.no _, h.nb, h.nv, h.no, h.d1, h.d2, h.d3, hp.of_block (Below.heap_setCell _ _ _ _ h.d2), (h.rv.of_block e1).of_block (Below.heap_setCell _ _ _ _ h.d3), ?_, h.inn.setO n x hx, h.off, h.ly⟩
  exact (h.ro.of_block e2).set n hn x
end Go.Proofs.Ytmjfccdhjhkocaa
