/- The ports with all that is theirs, in one; what is done with them. -/
import Derived.Test.YteomldlmdpphaaaDoorKp
import Derived.Test.YteomldlmdpphaaaDoorPoL
namespace Go.Proofs.YteomldlmdpphaaaDoor
open Go.RowKit
set_option linter.unusedVariables false
variable {b : Nat} {p : Po}
/-- ports that were made behind W0; all of W0 is as it was, and so are the blocks of K -/
structure Pb (W0 : World) (K : List (Nat × Obj)) (b : Nat) (p : Po) (zs : List Int) (W : World) : Prop where
  laid : LaidP W0
  ok : p.Ok
  len : zs.length ≤ 256
  new : W0.heap.size ≤ b
  up : Up W0 W
  row : ∃ v, PoAt W b p v ∧ SeAt W (b + 1) v zs ∧ ∀ k o, (k, o) ∈ K → W.heap[k]? = some o ∧ k ≠ b ∧ v.ownBlock ≠ some k
theorem Pb.nz {W0 : World} {K : List (Nat × Obj)} {zs : List Int} {W : World} (h : Pb W0 K b p zs W) : b ≠ 0 := by
  have := h.laid.1
  have := h.new
  omega
theorem Pb.laidW {W0 : World} {K : List (Nat × Obj)} {zs : List Int} {W : World} (h : Pb W0 K b p zs W) : LaidP W := h.laid.up h.up
theorem lt_of_some {W : World} {k : Nat} {o : Obj} (h : W.heap[k]? = some o) : k < W.heap.size := (Array.getElem?_eq_some_iff.1 h).1
theorem Pb.more {W0 : World} {K : List (Nat × Obj)} {zs : List Int} {W W' : World} (h : Pb W0 K b p zs W) (u : Up W W') : Pb W0 K b p zs W' := by
  obtain ⟨v, h1, h2, h3⟩ := h.row
  exact ⟨h.laid, h.ok, h.len, h.new, h.up.trans u, v, h1.up u, h2.up u, fun k o hk => ⟨(u.block k (lt_of_some (h3 k o hk).1)).trans (h3 k o hk).1, (h3 k o hk).2⟩⟩
theorem Pb.lt {W0 : World} {K : List (Nat × Obj)} {zs : List Int} {W : World} (h : Pb W0 K b p zs W) : b < W.heap.size := by
  obtain ⟨v, h1, _⟩ := h.row
  exact h1.lt
/-- a new block is kept, too -/
theorem Pb.keep {W0 : World} {K : List (Nat × Obj)} {zs : List Int} {W : World} (h : Pb W0 K b p zs W) (o : Obj) : Pb W0 ((W.heap.size, o) :: K) b p zs (W.alloc o) := by
  have u : Up W (W.alloc o) := (Up.refl W).alloc o
  obtain ⟨v, h1, h2, h3⟩ := h.row
  refine ⟨h.laid, h.ok, h.len, h.new, h.up.trans u, v, h1.up u, h2.up u, fun k o' hk => ?_⟩
  rcases List.mem_cons.1 hk with e | hk
  · injection e with e1 e2
    subst e1 e2
    refine ⟨heap_alloc_new W _, by have := h1.lt; omega, fun e => ?_⟩
    have := (h2.lt _ e).2
    omega
  · exact ⟨(u.block k (lt_of_some (h3 k o' hk).1)).trans (h3 k o' hk).1, (h3 k o' hk).2⟩
theorem Pb.drop {W0 : World} {K : List (Nat × Obj)} {x : Nat × Obj} {zs : List Int} {W : World} (h : Pb W0 (x :: K) b p zs W) : Pb W0 K b p zs W := by
  obtain ⟨v, h1, h2, h3⟩ := h.row
  exact ⟨h.laid, h.ok, h.len, h.new, h.up, v, h1, h2, fun k o hk => h3 k o (List.mem_cons_of_mem _ hk)⟩
theorem Pb.kept {W0 : World} {K : List (Nat × Obj)} {zs : List Int} {W : World} (h : Pb W0 K b p zs W) {k : Nat} {o : Obj} (hk : (k, o) ∈ K) : W.heap[k]? = some o := by
  obtain ⟨v, h1, h2, h3⟩ := h.row
  exact (h3 k o hk).1
theorem FrS.upW {W0 W W' : World} {r : Option Nat} (u : Up W0 W) (f : FrS b r W W') (hb : W0.heap.size ≤ b) (hr : ∀ k, r = some k → W0.heap.size ≤ k) : Up W0 W' :=
  ⟨f.os.trans u.os, f.output.trans u.output, Nat.le_trans u.size f.size, fun k hk => (f.block k (Nat.lt_of_lt_of_le hk u.size) (by omega) (fun e => by have := hr k e.symm; omega)).trans (u.block k hk)⟩
theorem Pb.moved {W0 : World} {K : List (Nat × Obj)} {zs zs' : List Int} {W W' : World} {q : Po} (h : Pb W0 K b p zs W) (oq : q.Ok) (hl : zs'.length ≤ 256)
    (m : ∀ v, PoAt W b p v → SeAt W (b + 1) v zs → ∃ v', PoAt W' b q v' ∧ SeAt W' (b + 1) v' zs' ∧ FrS b v.ownBlock W W' ∧ Moved W v.ownBlock v'.ownBlock) : Pb W0 K b q zs' W' := by
  obtain ⟨v, h1, h2, h3⟩ := h.row
  obtain ⟨v', g1, g2, g3, g4⟩ := m v h1 h2
  have hn := h.new
  refine ⟨h.laid, oq, hl, h.new, g3.upW h.up h.new (fun k e => by have := (h2.lt k e).1; omega), v', g1, g2, fun k o hk => ?_⟩
  obtain ⟨a1, a2, a3⟩ := h3 k o hk
  refine ⟨(g3.block k (lt_of_some a1) a2 (fun e => a3 e.symm)).trans a1, a2, fun e => ?_⟩
  rcases g4 with e4 | e4 | ⟨g, e4, hg⟩
  · rw [e4] at e; exact a3 e
  · rw [e4] at e; cases e
  · rw [e4] at e
    injection e with e
    have := lt_of_some a1
    omega
theorem Pb.fr {W0 : World} {K : List (Nat × Obj)} {zs : List Int} {W W' : World} {q : Po} (h : Pb W0 K b p zs W) (oq : q.Ok)
    (m : ∀ v, PoAt W b p v → PoAt W' b q v) (f : Fr b W W') : Pb W0 K b q zs W' :=
  h.moved oq h.len fun v h1 h2 => ⟨v, m v h1, h2.fr f (by omega), FrS.ofFr f, Moved.refl _ _⟩
/-- a call that changes cells of the ports alone -/
theorem Pb.does {W0 : World} {K : List (Nat × Obj)} {zs : List Int} {W : World} {q : Po} {f : Nat} {args : Array Value} {r : Value} (h : Pb W0 K b p zs W) (oq : q.Ok)
    (D : ∀ v W, PoAt W b p v → LaidP W → Calls Tryd.prog f args W fun e w' => e = .returned r ∧ PoAt w' b q v ∧ Fr b W w') :
    Calls Tryd.prog f args W fun e w' => e = .returned r ∧ Pb W0 K b q zs w' := by
  obtain ⟨v, h1, h2, h3⟩ := h.row
  refine (D v W h1 h.laidW).mono ?_
  rintro e w' ⟨rfl, g1, g2⟩
  refine ⟨rfl, h.moved oq h.len fun v' h1' h2' => ?_⟩
  have e : v' = v := by
    have := (h1'.all.2.2.2.2.2.2.2.2.2.2.2.2).symm.trans h1.all.2.2.2.2.2.2.2.2.2.2.2.2
    injection this
  subst e
  exact ⟨v', g1, h2.fr g2 (by omega), FrS.ofFr g2, Moved.refl _ _⟩
/-- the eight ports -/
def adr (i : Int) : Int := if i = 0 then 65280 else if i = 1 then 65281 else if i = 2 then 65282 else if i = 3 then 65284 else if i = 4 then 65285 else if i = 5 then 65286 else if i = 6 then 65287 else 65295
def Po.line (p : Po) (x : Int) : Po := if bits .and .u8 x 129 = 129 then { p with li := 129, tr := 4096, se := p.sh } else { p with li := bits .and .u8 x 129, tr := 0, se := 0 }
def Po.wr (p : Po) (i x : Int) : Po := if i = 0 then p.keysThen { p with ro := bits .and .u8 x 48 } else if i = 1 then { p with sh := x } else if i = 2 then p.line x else if i = 3 then p.driveThen { p with co := 0 } else if i = 4 then { p with ti := x, al := 0 } else if i = 5 then { p with ag := x } else if i = 6 then p.driveThen { p with ct := x % 8 } else { p with rq := x % 32 }
theorem li_of : ∀ x : Int, 0 ≤ x → x ≤ 255 → bits .and .u8 x 129 = 0 ∨ bits .and .u8 x 129 = 1 ∨ bits .and .u8 x 129 = 128 ∨ bits .and .u8 x 129 = 129 := byteAll (by decide +kernel)
theorem Po.Ok.wr (o : p.Ok) (i x : Int) (x0 : 0 ≤ x) (x1 : x ≤ 255) : (p.wr i x).Ok := by
  unfold Po.wr
  split
  · exact Po.Ok.keysThen (o.rows x x0 x1)
  split
  · exact { o with sh := ⟨x0, x1⟩ }
  split
  · unfold Po.line
    split
    · exact { o with li := Or.inr (Or.inr (Or.inr rfl)), tr := (show (0 : Int) ≤ 4096 ∧ (4096 : Int) ≤ 4096 by decide), se := o.sh }
    · exact { o with li := li_of x x0 x1, tr := (show (0 : Int) ≤ 0 ∧ (0 : Int) ≤ 4096 by decide), se := (show (0 : Int) ≤ 0 ∧ (0 : Int) ≤ 255 by decide) }
  split
  · exact Po.Ok.driveThen o.div
  split
  · exact { o with ti := ⟨x0, x1⟩, al := (show (0 : Int) ≤ 0 ∧ (0 : Int) ≤ 4 by decide) }
  split
  · exact { o with ag := ⟨x0, x1⟩ }
  split
  · exact Po.Ok.driveThen (o.ctl x)
  · exact { o with rq := (show 0 ≤ x % 32 ∧ x % 32 ≤ 31 by omega) }
theorem Pb.write {W0 : World} {K : List (Nat × Obj)} {zs : List Int} {W : World} (h : Pb W0 K b p zs W) (i x : Int) (i0 : 0 ≤ i) (i1 : i ≤ 7) (x0 : 0 ≤ x) (x1 : x ≤ 255) :
    Calls Tryd.prog 15 #[.pointer (some ⟨b, 0, none⟩), .int .i64 (adr i), .int .i64 x] W fun e w' => e = .returned (.int .i64 0) ∧ Pb W0 K b (p.wr i x) zs w' := by
  have o := h.ok
  have nz := h.nz
  refine h.does (o.wr i x x0 x1) fun v W h1 hL => ?_
  have : i = 0 ∨ i = 1 ∨ i = 2 ∨ i = 3 ∨ i = 4 ∨ i = 5 ∨ i = 6 ∨ i = 7 := by omega
  rcases this with rfl | rfl | rfl | rfl | rfl | rfl | rfl | rfl
  · exact write65280 o nz x x0 x1 v W h1 hL
  · exact write65281 o nz x x0 x1 v W h1 hL
  · exact write65282 o nz x x0 x1 v W h1 hL
  · exact write65284 o nz x x0 x1 v W h1 hL
  · exact write65285 o nz x x0 x1 v W h1 hL
  · exact write65286 o nz x x0 x1 v W h1 hL
  · exact write65287 o nz x x0 x1 v W h1 hL
  · exact write65295 o nz x x0 x1 v W h1 hL
theorem Pb.press {W0 : World} {K : List (Nat × Obj)} {zs : List Int} {W : World} (h : Pb W0 K b p zs W) (x : Int) (x0 : 0 ≤ x) (x1 : x ≤ 255) :
    Calls Tryd.prog 20 #[.pointer (some ⟨b, 0, none⟩), .int .i64 x] W fun e w' => e = .returned (.int .i64 0) ∧ Pb W0 K b (p.keysThen { p with bu := x }) zs w' :=
  h.does (Po.Ok.keysThen (h.ok.press x x0 x1)) fun v W h1 _ => press_any x x0 x1 h.ok h.nz v W h1
/-- requests as bits -/
def bitR (r : Int) : Int := if r = 0 then 1 else if r = 1 then 2 else if r = 2 then 4 else if r = 3 then 8 else 16
def Po.take (p : Po) (r : Int) : Po := { p with rq := bits .andNot .u8 p.rq (bitR r) }
def Po.raise (p : Po) (r : Int) : Po := { p with rq := bits .or .u8 p.rq (bitR r) }
theorem rq_all : ∀ x : Int, 0 ≤ x → x ≤ 255 → x ≤ 31 → ((0 ≤ bits .andNot .u8 x 1 ∧ bits .andNot .u8 x 1 ≤ 31) ∧ (0 ≤ bits .andNot .u8 x 2 ∧ bits .andNot .u8 x 2 ≤ 31) ∧ (0 ≤ bits .andNot .u8 x 4 ∧ bits .andNot .u8 x 4 ≤ 31) ∧ (0 ≤ bits .andNot .u8 x 8 ∧ bits .andNot .u8 x 8 ≤ 31) ∧ (0 ≤ bits .andNot .u8 x 16 ∧ bits .andNot .u8 x 16 ≤ 31))
    ∧ ((0 ≤ bits .or .u8 x 1 ∧ bits .or .u8 x 1 ≤ 31) ∧ (0 ≤ bits .or .u8 x 2 ∧ bits .or .u8 x 2 ≤ 31) ∧ (0 ≤ bits .or .u8 x 4 ∧ bits .or .u8 x 4 ≤ 31) ∧ (0 ≤ bits .or .u8 x 8 ∧ bits .or .u8 x 8 ≤ 31) ∧ (0 ≤ bits .or .u8 x 16 ∧ bits .or .u8 x 16 ≤ 31)) := byteAll (by decide +kernel)
theorem Po.Ok.take (o : p.Ok) (r : Int) : (p.take r).Ok := by
  have h := (rq_all p.rq o.rq.1 (by have := o.rq.2; omega) o.rq.2).1
  refine { o with rq := ?_ }
  show 0 ≤ bits .andNot .u8 p.rq (bitR r) ∧ bits .andNot .u8 p.rq (bitR r) ≤ 31
  unfold bitR
  split
  · exact h.1
  split
  · exact h.2.1
  split
  · exact h.2.2.1
  split
  · exact h.2.2.2.1
  · exact h.2.2.2.2
theorem Po.Ok.raise (o : p.Ok) (r : Int) : (p.raise r).Ok := by
  have h := (rq_all p.rq o.rq.1 (by have := o.rq.2; omega) o.rq.2).2
  refine { o with rq := ?_ }
  show 0 ≤ bits .or .u8 p.rq (bitR r) ∧ bits .or .u8 p.rq (bitR r) ≤ 31
  unfold bitR
  split
  · exact h.1
  split
  · exact h.2.1
  split
  · exact h.2.2.1
  split
  · exact h.2.2.2.1
  · exact h.2.2.2.2
theorem Pb.take {W0 : World} {K : List (Nat × Obj)} {zs : List Int} {W : World} (h : Pb W0 K b p zs W) (r : Int) (r0 : 0 ≤ r) (r1 : r ≤ 4) :
    Calls Tryd.prog 16 #[.pointer (some ⟨b, 0, none⟩), .int .i64 r] W fun e w' => e = .returned (.int .i64 0) ∧ Pb W0 K b (p.take r) zs w' := by
  refine h.does (h.ok.take r) fun v W h1 _ => ?_
  have : r = 0 ∨ r = 1 ∨ r = 2 ∨ r = 3 ∨ r = 4 := by omega
  rcases this with rfl | rfl | rfl | rfl | rfl
  · exact take0_any v W h1
  · exact take1_any v W h1
  · exact take2_any v W h1
  · exact take3_any v W h1
  · exact take4_any v W h1
theorem Pb.raise {W0 : World} {K : List (Nat × Obj)} {zs : List Int} {W : World} (h : Pb W0 K b p zs W) (r : Int) (r0 : 0 ≤ r) (r1 : r ≤ 4) :
    Calls Tryd.prog 22 #[.pointer (some ⟨b, 0, none⟩), .int .i64 r] W fun e w' => e = .returned (.int .i64 0) ∧ Pb W0 K b (p.raise r) zs w' := by
  refine h.does (h.ok.raise r) fun v W h1 _ => ?_
  have : r = 0 ∨ r = 1 ∨ r = 2 ∨ r = 3 ∨ r = 4 := by omega
  rcases this with rfl | rfl | rfl | rfl | rfl
  · exact raise0_any v W h1
  · exact raise1_any v W h1
  · exact raise2_any v W h1
  · exact raise3_any v W h1
  · exact raise4_any v W h1
theorem Pb.requests {W0 : World} {K : List (Nat × Obj)} {zs : List Int} {W : World} (h : Pb W0 K b p zs W) :
    Calls Tryd.prog 18 #[.pointer (some ⟨b, 0, none⟩)] W fun e w' => e = .returned (.int .i64 p.rq) ∧ Pb W0 K b p zs w' :=
  h.does h.ok fun v W h1 _ => requests_any h.ok v W h1
def Po.rd (p : Po) (i : Int) : Int := if i = 0 then p.btn else if i = 1 then p.sh else if i = 2 then bits .or .u8 p.li 126 else if i = 3 then p.co / 256 else if i = 4 then p.ti else if i = 5 then p.ag else if i = 6 then bits .or .u8 p.ct 248 else bits .or .u8 p.rq 224
theorem or_b8 : ∀ x : Int, 0 ≤ x → x ≤ 255 → (0 ≤ bits .or .u8 x 126 ∧ bits .or .u8 x 126 ≤ 255) ∧ (0 ≤ bits .or .u8 x 248 ∧ bits .or .u8 x 248 ≤ 255) ∧ (0 ≤ bits .or .u8 x 224 ∧ bits .or .u8 x 224 ≤ 255) := byteAll (by decide +kernel)
theorem btn4 : ∀ x : Int, 0 ≤ x → x ≤ 255 → x ≤ 15 → bits .or .u8 (bits .or .u8 192 0) x = 192 + 0 + x ∧ bits .or .u8 (bits .or .u8 192 16) x = 192 + 16 + x ∧ bits .or .u8 (bits .or .u8 192 32) x = 192 + 32 + x ∧ bits .or .u8 (bits .or .u8 192 48) x = 192 + 48 + x := byteAll (by decide +kernel)
theorem Po.btn_eq (o : p.Ok) : p.btn = 192 + p.ro + p.keys := by
  have k := Po.keys_b o
  have h := btn4 p.keys k.1 (by omega) k.2
  unfold Po.btn
  rcases o.ro with e | e | e | e <;> rw [e]
  · exact h.1
  · exact h.2.1
  · exact h.2.2.1
  · exact h.2.2.2
theorem Po.btn_b (o : p.Ok) : 0 ≤ p.btn ∧ p.btn ≤ 255 := by
  have k := Po.keys_b o
  rw [Po.btn_eq o]
  rcases o.ro with e | e | e | e <;> omega
theorem Po.rd_b (o : p.Ok) (i : Int) : 0 ≤ p.rd i ∧ p.rd i ≤ 255 := by
  unfold Po.rd
  split
  · exact Po.btn_b o
  split
  · exact o.sh
  split
  · exact (or_b8 p.li (by rcases o.li with h | h | h | h <;> omega) (by rcases o.li with h | h | h | h <;> omega)).1
  split
  · have := o.co; omega
  split
  · exact o.ti
  split
  · exact o.ag
  split
  · exact (or_b8 p.ct o.ct.1 (by have := o.ct.2; omega)).2.1
  · exact (or_b8 p.rq o.rq.1 (by have := o.rq.2; omega)).2.2
theorem Pb.read {W0 : World} {K : List (Nat × Obj)} {zs : List Int} {W : World} (h : Pb W0 K b p zs W) (i : Int) (i0 : 0 ≤ i) (i1 : i ≤ 7) :
    Calls Tryd.prog 19 #[.pointer (some ⟨b, 0, none⟩), .int .i64 (adr i)] W fun e w' => e = .returned (.tuple #[.int .i64 (p.rd i), .int .i64 0]) ∧ Pb W0 K b p zs w' := by
  have o := h.ok
  have r := Po.rd_b o i
  refine h.does o fun v W h1 hL => ?_
  have : i = 0 ∨ i = 1 ∨ i = 2 ∨ i = 3 ∨ i = 4 ∨ i = 5 ∨ i = 6 ∨ i = 7 := by omega
  rcases this with rfl | rfl | rfl | rfl | rfl | rfl | rfl | rfl
  · exact read65280 o _ rfl r.1 r.2 v W h1
  · exact read65281 o _ rfl r.1 r.2 v W h1
  · exact read65282 o _ rfl r.1 r.2 v W h1
  · exact read65284 o _ rfl r.1 r.2 v W h1
  · exact read65285 o _ rfl r.1 r.2 v W h1
  · exact read65286 o _ rfl r.1 r.2 v W h1
  · exact read65287 o _ rfl r.1 r.2 v W h1
  · exact read65295 o _ rfl r.1 r.2 v W h1
end Go.Proofs.YteomldlmdpphaaaDoor
