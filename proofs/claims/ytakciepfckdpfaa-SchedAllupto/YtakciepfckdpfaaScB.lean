/- Sched: a round and its slots, plainly. -/
import Derived.Test.YtakciepfckdpfaaScA
namespace Go.Proofs.Ytakciepfckdpfaa
open Go.RowKit
set_option linter.unusedVariables false
/-- a number in the round and whether it is ready; or a slot: whose turn, and does it go on -/
structure Mem where
  id : Int
  rd : Bool

def Mem.cells (m : Mem) : List Value := [.int .i64 m.id, .bool m.rd]
def memCells : List Mem → List Value
  | [] => []
  | x :: r => x.cells ++ memCells r
theorem memCells_len : ∀ l : List Mem, (memCells l).length = l.length * 2
  | [] => rfl
  | x :: r => by
    show (x.cells ++ memCells r).length = _
    rw [List.length_append, memCells_len r]
    show 2 + r.length * 2 = (r.length + 1) * 2
    omega
theorem memCells_app : ∀ (l m : List Mem), memCells (l ++ m) = memCells l ++ memCells m
  | [], m => rfl
  | y :: r, m => by
    show y.cells ++ memCells (r ++ m) = (y.cells ++ memCells r) ++ memCells m
    rw [memCells_app r m, List.append_assoc]
theorem memCells_at : ∀ (l : List Mem) (j r : Nat) (x : Mem), l[j]? = some x → r < 2 → (memCells l)[j * 2 + r]? = x.cells[r]?
  | [], j, r, x, h, _ => by simp at h
  | y :: l, 0, r, x, h, hr => by
    simp at h
    subst h
    show (y.cells ++ memCells l)[0 * 2 + r]? = _
    rw [List.getElem?_append_left (by show _ < 2; omega), Nat.zero_mul, Nat.zero_add]
  | y :: l, j + 1, r, x, h, hr => by
    show (y.cells ++ memCells l)[(j + 1) * 2 + r]? = _
    rw [List.getElem?_append_right (by show 2 ≤ _; omega)]
    show (memCells l)[(j + 1) * 2 + r - 2]? = _
    rw [show (j + 1) * 2 + r - 2 = j * 2 + r by omega]
    exact memCells_at l j r x (by simpa using h) hr
theorem memCells_one (l : List Mem) : ∀ v ∈ memCells l, v.oneCell' = true := by
  induction l with
  | nil => intro v hv; cases hv
  | cons x r ih =>
    intro v hv
    rcases List.mem_append.1 (show v ∈ x.cells ++ memCells r from hv) with h | h
    · simp only [Mem.cells, List.mem_cons, List.not_mem_nil, or_false] at h
      rcases h with rfl | rfl <;> rfl
    · exact ih v h
theorem memCells_take : ∀ (l : List Mem) (i : Nat), (memCells l).take (i * 2) = memCells (l.take i)
  | [], i => by simp [memCells]
  | x :: r, 0 => by simp [memCells]
  | x :: r, i + 1 => by
    show (x.cells ++ memCells r).take ((i + 1) * 2) = x.cells ++ memCells (r.take i)
    rw [List.take_append, List.take_of_length_le (by show 2 ≤ _; omega), show (i + 1) * 2 - x.cells.length = i * 2 by show (i + 1) * 2 - 2 = _; omega, memCells_take r i]
theorem memCells_drop : ∀ (l : List Mem) (i : Nat), (memCells l).drop (i * 2) = memCells (l.drop i)
  | [], i => by simp [memCells]
  | x :: r, 0 => by simp [memCells]
  | x :: r, i + 1 => by
    show (x.cells ++ memCells r).drop ((i + 1) * 2) = memCells (r.drop i)
    rw [List.drop_append, List.drop_of_length_le (by show 2 ≤ _; omega), show (i + 1) * 2 - x.cells.length = i * 2 by show (i + 1) * 2 - 2 = _; omega, memCells_drop r i]
    rfl
theorem memCells_erase (l : List Mem) (i : Nat) : (memCells l).take (i * 2) ++ (memCells l).drop ((i + 1) * 2) = memCells (l.eraseIdx i) := by
  rw [memCells_take, memCells_drop, ← memCells_app, List.eraseIdx_eq_take_drop_succ]
theorem memCells_set : ∀ (l : List Mem) (i k : Nat) (x : Mem), k < l.length * 2 → (memCells (l.set i x))[k]? = if k / 2 = i then x.cells[k % 2]? else (memCells l)[k]?
  | l, i, k, x, hk => by
    have hj : k / 2 < l.length := by omega
    have e1 : k = k / 2 * 2 + k % 2 := by omega
    obtain ⟨y, hy⟩ : ∃ y, l[k / 2]? = some y := ⟨_, List.getElem?_eq_getElem hj⟩
    by_cases e : k / 2 = i
    · rw [if_pos e]
      have := memCells_at (l.set i x) (k / 2) (k % 2) x (by rw [List.getElem?_set, if_pos e.symm, if_pos (by omega)]) (by omega)
      rw [← e1] at this
      exact this
    · rw [if_neg e]
      have h1 := memCells_at (l.set i x) (k / 2) (k % 2) y (by rw [List.getElem?_set, if_neg (fun h => e h.symm)]; exact hy) (by omega)
      have h2 := memCells_at l (k / 2) (k % 2) y hy (by omega)
      rw [← e1] at h1 h2
      rw [h1, h2]
/-- where the first one stands, or -1 -/
def idxI (k n : Nat) : Int := if k < n then (k : Int) else -1
theorem idxI_lt {k n : Nat} (h : k < n) : idxI k n = (k : Int) := if_pos h
theorem idxI_no {k n : Nat} (h : ¬ k < n) : idxI k n = -1 := if_neg h
theorem findIdx_hit {α : Type} {p : α → Bool} {l : List α} {k : Nat} {y : α} (h : l[k]? = some y) (hp : p y = true) (hn : ∀ (j : Nat) (z : α), j < k → l[j]? = some z → p z = false) : l.findIdx p = k := by
  obtain ⟨hk, rfl⟩ := List.getElem?_eq_some_iff.1 h
  rw [List.findIdx_eq hk]
  refine ⟨hp, fun j hj => ?_⟩
  exact hn j _ hj (List.getElem?_eq_getElem (by omega))
theorem findIdx_none {α : Type} {p : α → Bool} {l : List α} (hn : ∀ (j : Nat) (z : α), l[j]? = some z → p z = false) : l.findIdx p = l.length := by
  rw [List.findIdx_eq_length]
  intro x hx
  obtain ⟨j, hj, rfl⟩ := List.mem_iff_getElem.1 hx
  simpa using hn j _ (List.getElem?_eq_getElem hj)
/-- a sched -/
structure Sd where
  rnd : List Mem
  slo : List Mem
/-- does a turn of the number go on? -/
def Sd.busy (S : Sd) (id : Int) : Bool := S.slo.any (fun t => t.id == id && t.rd)
/-- where the number stands -/
def Sd.at (S : Sd) (id : Int) : Nat := S.rnd.findIdx (fun m => m.id == id)
/-- who is next -/
def Sd.next (S : Sd) : Nat := S.rnd.findIdx (fun m => m.rd && !S.busy m.id)
def Sd.addE (S : Sd) (id : Int) : Int := if id < 0 then 1 else if S.at id < S.rnd.length then 132 else if 64 ≤ S.rnd.length then 133 else 0
def Sd.add (S : Sd) (id : Int) : Sd := if S.addE id = 0 then { S with rnd := S.rnd ++ [⟨id, false⟩] } else S
def Sd.remE (S : Sd) (id : Int) : Int := if S.at id < S.rnd.length then 0 else 132
def Sd.rem (S : Sd) (id : Int) : Sd := if S.remE id = 0 then { S with rnd := S.rnd.eraseIdx (S.at id) } else S
def Sd.ready (S : Sd) (id : Int) (b : Bool) : Sd := if S.remE id = 0 then { S with rnd := S.rnd.set (S.at id) ⟨id, b⟩ } else S
/-- is the slot there, and does a turn go on on it? -/
def Sd.slot (S : Sd) (s : Int) : Option Mem := if 0 ≤ s then S.slo[s.toNat]? else none
def Sd.begE (S : Sd) (s : Int) : Int :=
  match S.slot s with
  | none => 131
  | some t => if t.rd then 131 else if S.next < S.rnd.length then 0 else 134
def Sd.nextM (S : Sd) : Mem := S.rnd.getD S.next ⟨0, false⟩
def Sd.begN (S : Sd) (s : Int) : Int := if S.begE s = 0 then S.nextM.id else 0
def Sd.begin (S : Sd) (s : Int) : Sd := if S.begE s = 0 then ⟨S.rnd.eraseIdx S.next ++ [S.nextM], S.slo.set s.toNat ⟨S.nextM.id, true⟩⟩ else S
def Sd.endE (S : Sd) (s : Int) : Int :=
  match S.slot s with
  | none => 131
  | some t => if t.rd then 0 else 131
def Sd.endN (S : Sd) (s : Int) : Int := if S.endE s = 0 then (S.slo.getD s.toNat ⟨0, false⟩).id else 0
def Sd.done (S : Sd) (s : Int) : Sd := if S.endE s = 0 then { S with slo := S.slo.set s.toNat ⟨0, false⟩ } else S
end Go.Proofs.Ytakciepfckdpfaa
