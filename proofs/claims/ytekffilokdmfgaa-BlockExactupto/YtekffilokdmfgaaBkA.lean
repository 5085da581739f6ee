/- Block: memory, plainly. -/
import Derived.Test.YtekffilokdmfgaaProg
import Derived.Test.YtekffilokdmfgaaPlain
import Derived.WalkKit
import Derived.LoopTactic
import Derived.BigCall
import Derived.Handy
import Derived.Lib.OthersKept
import Derived.Deep.QuietTactic
import Derived.BigQuiet
import Derived.Deep.RegionHeld3
import Derived.Laws.Tables
import Derived.Laws.EntriesVeiled
import Derived.Maps.AppendAt
import Derived.OwnWalk
import Derived.Shelf.Spec.SlicesInsert
import Derived.Shelf.SlicesE.Clone
import Derived.Laws.CopyOwn
import Derived.Deep.MidRow
namespace Go.Proofs.Ytekffilokdmfgaa
open Go.RowKit
set_option linter.unusedVariables false
theorem retB {a b : Bool} (h : a = b) : Ending.returned (.bool a) = .returned (.bool b) := by rw [h]
theorem ret1 {k : IntKind} {a b : Int} (h : a = b) : Ending.returned (.int k a) = .returned (.int k b) := by rw [h]
/-- all that was there is there as it was -/
structure Up (w w' : World) : Prop where
  os : w'.os = w.os
  output : w'.output = w.output
  size : w.heap.size ≤ w'.heap.size
  block : ∀ k, k < w.heap.size → w'.heap[k]? = w.heap[k]?
/-- .. but for one block -/
structure Fr (b : Nat) (w w' : World) : Prop where
  os : w'.os = w.os
  output : w'.output = w.output
  size : w.heap.size ≤ w'.heap.size
  block : ∀ k, k < w.heap.size → k ≠ b → w'.heap[k]? = w.heap[k]?
theorem Up.refl (w : World) : Up w w := ⟨rfl, rfl, Nat.le_refl _, fun _ _ => rfl⟩
theorem Up.trans {x y z : World} (h : Up x y) (k : Up y z) : Up x z :=
  ⟨k.os.trans h.os, k.output.trans h.output, Nat.le_trans h.size k.size, fun j hj => (k.block j (Nat.lt_of_lt_of_le hj h.size)).trans (h.block j hj)⟩
theorem Up.drewN (w : World) (n : Nat) : Up w (w.drewN n) := ⟨rfl, rfl, Nat.le_refl _, fun _ _ => rfl⟩
theorem Up.drew {w w' : World} (h : Up w w') : Up w w'.drew := ⟨h.os, h.output, h.size, h.block⟩
theorem Up.alloc {w w' : World} (h : Up w w') (o : Obj) : Up w (w'.alloc o) :=
  h.trans ⟨rfl, rfl, by simp, fun k hk => Below.heap_alloc _ _ _ hk⟩
theorem Up.setCell {w w' : World} (h : Up w w') {p : Addr} (hp : w.heap.size ≤ p.block) (u : Value) : Up w (w'.setCell p u) :=
  ⟨h.os, h.output, by simpa using h.size, fun k hk => (Below.heap_setCell _ _ _ _ (by omega)).trans (h.block k hk)⟩
theorem Up.setRow {w w' : World} (h : Up w w') {g : Nat} (hp : w.heap.size ≤ g) (cs : Array Value) : Up w (w'.setRow g cs) :=
  ⟨h.os, h.output, by simp [World.setRow]; exact h.size, fun k hk => (setRow_other _ _ _ _ (by omega)).trans (h.block k hk)⟩
theorem Up.ofBelow {w w' : World} (h : Below w.heap.size w w') : Up w w' := ⟨h.os, h.output, h.size, h.block⟩
theorem Up.ofGrown {w w' : World} (h : Grown w w') : Up w w' := by
  refine ⟨h.1.1, h.1.2.1, h.2.2, fun k hk => ?_⟩
  have hh := h.1.2.2 k hk
  generalize h1 : w.heap[k]? = a at hh
  generalize h2 : w'.heap[k]? = c at hh
  split at hh
  · obtain ⟨rfl, rfl, hs, hj⟩ := hh
    have := Array.ext_getElem? (fun j => hj j (fun x => x))
    rw [this]
  · rcases hh with hf | ⟨rfl, rfl⟩
    · exact hf.elim
    · rfl
  · exact hh
theorem Fr.ofUp {b : Nat} {w w' : World} (h : Up w w') : Fr b w w' := ⟨h.os, h.output, h.size, fun k hk _ => h.block k hk⟩
theorem Fr.refl (b : Nat) (w : World) : Fr b w w := Fr.ofUp (Up.refl w)
theorem Fr.trans {b : Nat} {x y z : World} (h : Fr b x y) (k : Fr b y z) : Fr b x z :=
  ⟨k.os.trans h.os, k.output.trans h.output, Nat.le_trans h.size k.size, fun j hj hb => (k.block j (Nat.lt_of_lt_of_le hj h.size) hb).trans (h.block j hj hb)⟩
theorem Fr.setCell {b k : Nat} {v : Value} {x y : World} (h : Fr b x y) : Fr b x (y.setCell ⟨b, k, none⟩ v) :=
  ⟨h.os, h.output, by simpa using h.size, fun j hj hb => (Below.heap_setCell y ⟨b, k, none⟩ v j hb).trans (h.block j hj hb)⟩
theorem Fr.setRow {b : Nat} {cs : Array Value} {x y : World} (h : Fr b x y) : Fr b x (y.setRow b cs) :=
  ⟨h.os, h.output, by simp [World.setRow]; exact h.size, fun j hj hb => (setRow_other _ _ _ _ (by omega)).trans (h.block j hj hb)⟩
theorem Fr.up {b : Nat} {w x y : World} (h : Up w x) (hb : w.heap.size ≤ b) (k : Fr b x y) : Up w y :=
  ⟨k.os.trans h.os, k.output.trans h.output, Nat.le_trans h.size k.size, fun j hj => (k.block j (Nat.lt_of_lt_of_le hj h.size) (by omega)).trans (h.block j hj)⟩
theorem Up.cell {w w' : World} (h : Up w w') {g k : Nat} (hg : g < w.heap.size) : w'.cell? ⟨g, k, none⟩ = w.cell? ⟨g, k, none⟩ := by
  unfold World.cell?
  rw [show (w'.heap[(⟨g, k, none⟩ : Addr).block]?) = w.heap[(⟨g, k, none⟩ : Addr).block]? from h.block _ hg]
theorem Fr.cell {b : Nat} {w w' : World} (h : Fr b w w') {g k : Nat} (hg : g < w.heap.size) (hb : g ≠ b) : w'.cell? ⟨g, k, none⟩ = w.cell? ⟨g, k, none⟩ := by
  unfold World.cell?
  rw [show (w'.heap[(⟨g, k, none⟩ : Addr).block]?) = w.heap[(⟨g, k, none⟩ : Addr).block]? from h.block _ hg hb]
/-- a block of n bytes -/
structure NmAt (w : World) (g n : Nat) (f : Nat → Int) : Prop where
  row : ∃ cs ty, w.heap[g]? = some (.cells cs ty (0, 0)) ∧ cs.size = n ∧ ∀ k, k < n → cs[k]? = some (.int .u8 (f k))
theorem NmAt.lt {w : World} {g n : Nat} {f : Nat → Int} (h : NmAt w g n f) : g < w.heap.size := by
  obtain ⟨cs, ty, h1, _⟩ := h.row
  exact (Array.getElem?_eq_some_iff.1 h1).1
theorem NmAt.cell {w : World} {g n : Nat} {f : Nat → Int} (h : NmAt w g n f) (k : Nat) (hk : k < n) : w.cell? ⟨g, k, none⟩ = some (.int .u8 (f k)) := by
  obtain ⟨cs, ty, h1, h2, h3⟩ := h.row
  rw [cell_of_row _ _ _ _ _ _ h1]
  exact h3 k hk
theorem NmAt.fz {w : World} {g n : Nat} {f : Nat → Int} (h : NmAt w g n f) (k : Nat) : w.frozen? ⟨g, k, none⟩ = false := by
  obtain ⟨cs, ty, h1, _⟩ := h.row
  simp [World.frozen?, h1]
theorem NmAt.of_block {w w' : World} {g n : Nat} {f : Nat → Int} (h : NmAt w g n f) (e : w'.heap[g]? = w.heap[g]?) : NmAt w' g n f := by
  obtain ⟨cs, ty, h1, h2⟩ := h.row
  exact ⟨cs, ty, e.trans h1, h2⟩
theorem NmAt.congr {w : World} {g n : Nat} {f f' : Nat → Int} (h : NmAt w g n f) (e : ∀ k, k < n → f k = f' k) : NmAt w g n f' := by
  obtain ⟨cs, ty, h1, h2, h3⟩ := h.row
  exact ⟨cs, ty, h1, h2, fun k hk => by rw [← e k hk]; exact h3 k hk⟩
theorem NmAt.set {w : World} {g n : Nat} {f : Nat → Int} (h : NmAt w g n f) (i : Nat) (hi : i < n) (x : Int) : NmAt (w.setCell ⟨g, i, none⟩ (.int .u8 x)) g n (fun k => if k = i then x else f k) := by
  obtain ⟨cs, ty, h1, h2, h3⟩ := h.row
  refine ⟨cs.setIfInBounds i (.int .u8 x), ty, heap_setCell_same w g i _ _ _ h1, by simp [h2], fun j hj => ?_⟩
  rw [Array.getElem?_setIfInBounds]
  by_cases e : j = i
  · subst e
    rw [if_pos rfl, if_pos (by omega), if_pos rfl]
  · rw [if_neg (fun e' => e e'.symm), if_neg e]
    exact h3 j hj
def I64 (x : Int) : Prop := -9223372036854775808 ≤ x ∧ x ≤ 9223372036854775807
theorem pick_any (c n : Int) (w : World) (hc : I64 c) (hn : 0 < n) (hn2 : n ≤ 1099511627776) :
    Calls Try.prog 9 #[.int .i64 c, .int .i64 n] w fun e w' => e = .returned (.int .i64 (pickI c n)) ∧ w' = w := by
  obtain ⟨hc1, hc2⟩ := hc
  by_cases h : c < 0
  · go_enter Try.func9, Try.ntmps9
    go_wp2
    go_ret
    exact ⟨ret1 (by unfold pickI; rw [if_pos h, ← Int.neg_tmod, Int.tmod_eq_emod_of_nonneg (by omega)]), rfl⟩
  · go_enter Try.func9, Try.ntmps9
    go_wp2
    go_ret
    exact ⟨ret1 (by unfold pickI; rw [if_neg (by omega)]), rfl⟩
structure Ints (W : World) (aa : Option Addr) (ab ao len cap : Nat) (f : Nat → Int) : Prop where
  lc : len ≤ cap
  cm : cap ≤ maxLen
  ad : 0 < len → aa = some ⟨ab, ao, none⟩
  i64 : ∀ k, I64 (f k)
  cell : ∀ k, k < len → W.cell? ⟨ab, ao + k, none⟩ = some (.int .i64 (f k))
structure Byts (W : World) (aa : Option Addr) (ab ao len cap : Nat) (f : Nat → Int) : Prop where
  lc : len ≤ cap
  cm : cap ≤ maxLen
  ad : 0 < len → aa = some ⟨ab, ao, none⟩
  u8 : ∀ k, 0 ≤ f k ∧ f k ≤ 255
  cell : ∀ k, k < len → W.cell? ⟨ab, ao + k, none⟩ = some (.int .u8 (f k))
/-- all blocks of K as they were -/
structure FK (K : Nat → Prop) (w w' : World) : Prop where
  os : w'.os = w.os
  output : w'.output = w.output
  size : w.heap.size ≤ w'.heap.size
  block : ∀ b, b < w.heap.size → K b → w'.heap[b]? = w.heap[b]?
theorem FK.trans {K : Nat → Prop} {x y z : World} (h : FK K x y) (k : FK K y z) : FK K x z :=
  ⟨k.os.trans h.os, k.output.trans h.output, Nat.le_trans h.size k.size, fun b hb hk => (k.block b (Nat.lt_of_lt_of_le hb h.size) hk).trans (h.block b hb hk)⟩
theorem FK.ofUp {K : Nat → Prop} {x y : World} (h : Up x y) : FK K x y := ⟨h.os, h.output, h.size, fun b hb _ => h.block b hb⟩
theorem FK.ofFr {K : Nat → Prop} {x y : World} {c : Nat} (h : Fr c x y) (hc : ¬ K c) : FK K x y := ⟨h.os, h.output, h.size, fun b hb hk => h.block b hb (fun e => hc (e ▸ hk))⟩
theorem FK.mono {K K' : Nat → Prop} {x y : World} (h : FK K x y) (hk : ∀ b, b < x.heap.size → K' b → K b) : FK K' x y := ⟨h.os, h.output, h.size, fun b hb h' => h.block b hb (hk b hb h')⟩
/-- the second type of an append is of no matter, if it is a slice's -/
theorem append_types {P : Program} (w : World) (t t' ty e : TypeId) (ht : P.underlying t = some (.slice e)) (ht' : P.underlying t' = some (.slice e)) (b : Option Addr) (n c : Nat) (x : Value) : (Builtin.append_ #[t, t'] ty #[.slice b n c, x]).run P w = (Builtin.append_ #[t, t] ty #[.slice b n c, x]).run P w := by
  have u1 := run_underlying ht
  have u2 := run_underlying ht'
  unfold Builtin.append_
  simp only [List.getElem?_toArray, List.getElem?_cons_zero, List.getElem?_cons_succ, Sem.run_bind, u1, u2, Result.andThen_ok]
theorem wpList_append_own_at2 {P : Program} (w : World) {ops : Array Oper} {rest : List Oper} {o : Oper} {a : Act} {Q : Exit → Act → World → Prop} (hgd : o.guard = none) (s x : Operand) (t t' : TypeId)
    (ho : o.op = .call { callee := .builtin .append, args := #[s, x], argTypes := #[t, t'] })
    (base : Nat) (e : TypeId) (i : TypeInfo) (z : Value) (size bytes : Nat) (ht : P.underlying t = some (.slice e)) (ht' : P.underlying t' = some (.slice e)) (hi : P.info? e = some i) (hz : i.zero = some z)
    (hsize : i.size = size) (hby : i.bytes = bytes) (hzs : z.cells.size = size) (hsz : 0 < size)
    (v : Value) (n : Nat) (xs : List Value) (hs : a.eval s = v) (hown : w.ownsRow base e size v n xs)
    (ad : Addr) (m c : Nat) (news : List Value) (hx : a.eval x = .slice (some ad) m c) (hl : news.length = m * size) (hnews : ∀ j u, news[j]? = some u → w.cell? (ad.add j) = some u) (h1 : ∀ u ∈ news, u.oneCell' = true)
    (h63 : n + m ≤ maxLen) (hbytes : (n + m) * bytes ≤ 140737488355328) (hbase : base ≤ w.heap.size)
    (h : ∀ v' w', w'.ownsRow base e size v' (n + m) (xs ++ news) → w.grownBy w' v.ownBlock → (v'.ownBlock = v.ownBlock ∨ v'.ownBlock = some w.heap.size) → wpList P ops Q rest (a.put o.dst v') w') :
    wpList P ops Q (o :: rest) a w := by
  refine wpList_plain hgd fun K hK => ?_
  obtain ⟨v', w', hr, h2, h3, _, h5⟩ := run_append_own_at (P := P) w base t o.type e i z size bytes ht hi hz hsize hby hzs hsz v n xs hown ad m c news hl hnews h1 h63 hbytes hbase
  obtain ⟨vb, vn, vc, rfl⟩ : ∃ vb vn vc, v = .slice vb vn vc := by
    rcases hown.2 with ⟨hv, _⟩ | ⟨g, cap, cur, hv, _⟩
    · exact ⟨_, _, _, hv⟩
    · exact ⟨_, _, _, hv⟩
  have hr2 := append_types (P := P) w t t' o.type e ht ht' vb vn vc (.slice (some ad) m c)
  unfold Oper.wp execOp
  simp only [ho, resolve, invoke, builtin, Sem.run_bind, Sem.run_pure, Result.andThen_ok, List.map_toArray, List.map_cons, List.map_nil, hs, hx, hr2, hr]
  exact hK _ _ (h v' w' h2 h3 h5)
/-- the cell at q, o holds v' in the place of v; v's own row may have changed; nothing else of what was there -/
structure Chg (W w' : World) (q o : Nat) (v v' : Value) : Prop where
  os : w'.os = W.os
  output : w'.output = W.output
  size : W.heap.size ≤ w'.heap.size
  cellq : ∀ cs ty, W.heap[q]? = some (.cells cs ty (0, 0)) → w'.heap[q]? = some (.cells (cs.setIfInBounds o v') ty (0, 0))
  block : ∀ b, b < W.heap.size → b ≠ q → v.ownBlock ≠ some b → w'.heap[b]? = W.heap[b]?
  own : v'.ownBlock = v.ownBlock ∨ ∃ g, v'.ownBlock = some g ∧ W.heap.size ≤ g
theorem own_cases {w : World} {base n size : Nat} {e : TypeId} {v : Value} {xs : List Value} (h : w.ownsRow base e size v n xs) : (v = .slice none 0 0 ∧ n = 0 ∧ xs = []) ∨ ∃ g cap, v = .slice (some ⟨g, 0, none⟩) n cap ∧ n ≤ cap ∧ cap ≤ maxLen ∧ g < w.heap.size ∧ v.ownBlock = some g := by
  rcases h.2 with ⟨hv, hn⟩ | ⟨g, cap, cur, hv, hb, hg, hc, hm, _⟩
  · refine Or.inl ⟨hv, hn, ?_⟩
    have := h.1
    rw [hn, Nat.zero_mul] at this
    exact List.length_eq_zero_iff.1 this
  · exact Or.inr ⟨g, cap, hv, hc, hm, (Array.getElem?_eq_some_iff.1 hg).1, by rw [hv]; rfl⟩
/-- a cell of a row of one's own -/
theorem own_cell {w : World} {base n size g cap : Nat} {e : TypeId} {xs : List Value} (h : w.ownsRow base e size (.slice (some ⟨g, 0, none⟩) n cap) n xs) (j : Nat) (hj : j < n * size) : w.cell? ⟨g, 0 + j, none⟩ = xs[j]? := by
  rcases h.2 with ⟨hv, hn⟩ | ⟨g', cap', cur, hv, hb, hg, hc, hm, hs, ht⟩
  · cases hv
  · have e1 : g' = g := by
      injection hv with h1
      injection h1 with h1
      injection h1 with h1 _
      exact h1.symm
    subst e1
    rw [cell_of_row _ _ _ _ _ _ hg, Nat.zero_add, ← ht, List.getElem?_take, if_pos hj, Array.getElem?_toList]
/-- cells put into a row, one behind the other -/
def putL (cs : Array Value) : Nat → List Value → Array Value
  | _, [] => cs
  | o, v :: r => putL (cs.setIfInBounds o v) (o + 1) r
theorem putL_size : ∀ (vs : List Value) (o : Nat) (cs : Array Value), (putL cs o vs).size = cs.size
  | [], _, _ => rfl
  | v :: r, o, cs => by
    show (putL (cs.setIfInBounds o v) (o + 1) r).size = _
    rw [putL_size r]
    simp
theorem putL_at : ∀ (vs : List Value) (o : Nat) (cs : Array Value) (k : Nat), o + vs.length ≤ cs.size → (putL cs o vs)[k]? = if o ≤ k ∧ k < o + vs.length then vs[k - o]? else cs[k]?
  | [], o, cs, k, h => by
    rw [if_neg (by simp)]
    rfl
  | v :: r, o, cs, k, h => by
    simp only [List.length_cons] at h
    show (putL (cs.setIfInBounds o v) (o + 1) r)[k]? = _
    rw [putL_at r (o + 1) _ k (by simp; omega), Array.getElem?_setIfInBounds]
    simp only [List.length_cons]
    by_cases e : k = o
    · subst e
      rw [if_neg (by omega), if_pos rfl, if_pos (by omega), if_pos (by omega), Nat.sub_self]
      rfl
    · by_cases e2 : o ≤ k ∧ k < o + (r.length + 1)
      · rw [if_pos (by omega), if_pos e2]
        obtain ⟨j, hj⟩ : ∃ j, k - o = j + 1 := ⟨k - o - 1, by omega⟩
        rw [hj, show k - (o + 1) = j by omega]
        rfl
      · rw [if_neg (by omega), if_neg (fun e' => e e'.symm), if_neg e2]
theorem heap_setCells_same (b : Nat) (ty : TypeId) : ∀ (vs : List Value) (o : Nat) (cs : Array Value) (w : World), w.heap[b]? = some (.cells cs ty (0, 0)) → (w.setCells b o vs).heap[b]? = some (.cells (putL cs o vs) ty (0, 0))
  | [], _, _, _, h => h
  | v :: r, o, cs, w, h => by
    show ((w.setCell ⟨b, o, none⟩ v).setCells b (o + 1) r).heap[b]? = some (.cells (putL (cs.setIfInBounds o v) (o + 1) r) ty (0, 0))
    exact heap_setCells_same b ty r (o + 1) _ _ (heap_setCell_same w b o _ _ v h)
theorem fr_setCells (b : Nat) : ∀ (vs : List Value) (o : Nat) (w : World), Fr b w (w.setCells b o vs)
  | [], _, w => Fr.refl b w
  | v :: r, o, w => ((Fr.refl b w).setCell).trans (fr_setCells b r (o + 1) _)
/-- a row of one's own, its cells behind it too -/
theorem own_open {w : World} {base n size g cap : Nat} {e : TypeId} {xs : List Value} (h : w.ownsRow base e size (.slice (some ⟨g, 0, none⟩) n cap) n xs) : ∃ cur, w.heap[g]? = some (.cells cur e (0, 0)) ∧ base ≤ g ∧ n ≤ cap ∧ cap ≤ maxLen ∧ cur.size = cap * size ∧ cur.toList.take (n * size) = xs ∧ xs.length = n * size := by
  rcases h.2 with ⟨hv, hn⟩ | ⟨g', cap', cur, hv, hb, hg, hc, hm, hs, ht⟩
  · cases hv
  · injection hv with h1 _ h3
    injection h1 with h1
    injection h1 with h1 _
    subst h1 h3
    exact ⟨cur, hg, hb, hc, hm, hs, ht, h.1⟩
theorem own_at {n size : Nat} {cur : Array Value} {xs : List Value} (h : cur.toList.take (n * size) = xs) (k : Nat) (hk : k < n * size) : cur[k]? = xs[k]? := by
  rw [← h, List.getElem?_take, if_pos hk, Array.getElem?_toList]
theorem own_of {w : World} {base n size g cap : Nat} {e : TypeId} {xs : List Value} {cur : Array Value} (hg : w.heap[g]? = some (.cells cur e (0, 0))) (hb : base ≤ g) (hc : n ≤ cap) (hm : cap ≤ maxLen) (hs : cur.size = cap * size) (hl : xs.length = n * size) (ht : ∀ k, k < n * size → cur[k]? = xs[k]?) : w.ownsRow base e size (.slice (some ⟨g, 0, none⟩) n cap) n xs := by
  refine ⟨hl, Or.inr ⟨g, cap, cur, rfl, hb, hg, hc, hm, hs, ?_⟩⟩
  refine List.ext_getElem? fun k => ?_
  rw [List.getElem?_take]
  by_cases hk : k < n * size
  · rw [if_pos hk, Array.getElem?_toList, ht k hk]
  · rw [if_neg hk]
    exact (List.getElem?_eq_none_iff.2 (by omega)).symm
theorem range2 {w : World} {g o : Nat} {x y : Value} (h0 : w.cell? ⟨g, o, none⟩ = some x) (h1 : w.cell? ⟨g, o + 1, none⟩ = some y) : w.rangeAt g o [x, y] := by
  intro k v hv
  match k with
  | 0 => simp at hv; rw [← hv]; exact h0
  | 1 => simp at hv; rw [← hv]; exact h1
  | k + 2 => simp at hv
/-- a row of one's own, where nothing old has changed -/
theorem ownsRow_up {w w' : World} {base n : Nat} {ty : TypeId} {size : Nat} {v : Value} {xs : List Value} (h : w.ownsRow base ty size v n xs) (u : Up w w') : w'.ownsRow base ty size v n xs :=
  ⟨h.1, h.2.imp id fun ⟨g, cap, cur, h1, h2, h3, h4⟩ => ⟨g, cap, cur, h1, h2, (u.block g (Array.getElem?_eq_some_iff.1 h3).1).trans h3, h4⟩⟩
theorem ownsRow_block {w w' : World} {base n : Nat} {ty : TypeId} {size : Nat} {v : Value} {xs : List Value} (h : w.ownsRow base ty size v n xs) (u : ∀ g, v.ownBlock = some g → w'.heap[g]? = w.heap[g]?) : w'.ownsRow base ty size v n xs :=
  ⟨h.1, h.2.imp id fun ⟨g, cap, cur, h1, h2, h3, h4⟩ => ⟨g, cap, cur, h1, h2, (u g (by rw [h1]; rfl)).trans h3, h4⟩⟩
theorem heap_at {w : World} {b : Nat} {cs : Array Value} {ty : TypeId} (h : w.heap[b]? = some (.cells cs ty (0, 0))) : b < w.heap.size := (Array.getElem?_eq_some_iff.1 h).1
theorem own_slice3 {w : World} {base n size : Nat} {ty : TypeId} {v : Value} {xs : List Value} (h : w.ownsRow base ty size v n xs) : ∃ va vn vc, v = .slice va vn vc := by
  rcases h.2 with ⟨hv, _⟩ | ⟨g, cap, cur, hv, _⟩
  · exact ⟨_, _, _, hv⟩
  · exact ⟨_, _, _, hv⟩
theorem heap_cell {w : World} {q o : Nat} {cs : Array Value} {ty : TypeId} {v : Value} (h : w.heap[q]? = some (.cells cs ty (0, 0))) (ho : cs[o]? = some v) : w.cell? ⟨q, o, none⟩ = some v := by
  rw [cell_of_row _ _ _ _ _ _ h]
  exact ho
theorem heap_fz {w : World} {q o : Nat} {cs : Array Value} {ty : TypeId} (h : w.heap[q]? = some (.cells cs ty (0, 0))) : w.frozen? ⟨q, o, none⟩ = false := by simp [World.frozen?, h]
end Go.Proofs.Ytekffilokdmfgaa
