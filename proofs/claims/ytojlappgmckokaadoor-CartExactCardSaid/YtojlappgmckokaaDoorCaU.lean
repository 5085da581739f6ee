/- What the cards of the cartridges share: how their arguments come in, what the tables are, and what stays. -/
import Derived.Test.YtojlappgmckokaaDoorRows
import Derived.Test.YtojlappgmckokaaDoorTie
import Derived.Test.YtojlappgmckokaaDoorCards
import Derived.Test.YtojlappgmckokaaDoorCaE
import Derived.LaidMore
import Derived.Stop.Joined
import Derived.Lib.LaidTab
import Derived.SevenTiedAt
import Derived.Deep.Slices
import Derived.Deep.SlicePairs
import Derived.Deep.Frames
import Derived.Carry
import Derived.WalkKit
import Derived.ProofKit
import Derived.OpenShut
import Derived.ChangeSlices
namespace Go.Proofs.YtojlappgmckokaaDoor
open Go.ChangeShapes Go.WideShapes Go.ChangeAt Go.RowKit Go.Deep
set_option linter.unusedVariables false
theorem own : ownKnob Tryd.prog.godebug = none := by kernel_rfl
theorem cells3 : Tryd.prog.cellsOf 3 = 1 := by kernel_rfl
theorem laidOut : laidOutB Tryd.prog = true := by kernel_rfl
/-- What was there is as it was: the frame. -/
theorem grownOf {w w' : World} (h : Up w w') : w.keptBut w' (fun _ => False) := by
  refine ⟨h.os, h.output, fun i hi => ?_⟩
  rw [h.block i hi]
  split
  · rename_i h1 h2
    obtain ⟨rfl, rfl, rfl⟩ := by simpa using h1.symm.trans h2
    exact ⟨rfl, rfl, rfl, fun _ _ => rfl⟩
  · rename_i h1 h2
    obtain ⟨rfl, rfl⟩ := by simpa using h1.symm.trans h2
    exact Or.inr ⟨rfl, rfl⟩
  · rfl
theorem i64Of {z : Int} (h : (Lit.int .i64 z).wf = true) : I64 z := bounds_i64 h
/-- a listed variable reads as listed -/
theorem laid_at {P : Program} {W : World} : ∀ {l : List (String × DataW Unit)} {ps : List MemPlace}, DataW.LaidVars P W l ps → ∀ n d, (n, d) ∈ l →
    ∃ g t cs fuel p, P.globalNamed n = some g ∧ (P.globals[g]?).map (·.type) = some t ∧ W.var? P n = some cs ∧ DataW.trod (fun _ => ()) P W 0 (fun _ => true) false fuel t cs.toList = some (d, p)
  | [], _, _, n, d, h => by cases h
  | (m, e) :: r, ps, h, n, d, hm => by
    obtain ⟨g, t, cs, fuel, p, q, hg, ht, hv, hd, hr, _⟩ := h
    rcases List.mem_cons.1 hm with e1 | e1
    · cases e1
      exact ⟨g, t, cs, fuel, p, hg, ht, hv, hd⟩
    · exact laid_at hr n d e1
theorem lits_inj {k : IntKind} : ∀ {a b : List Int}, (a.map fun z => (DataW.lit (.int k z) : DataW Unit)) = lits k b → a = b
  | [], [], _ => rfl
  | [], y :: b, h => by cases h
  | x :: a, [], h => by cases h
  | x :: a, y :: b, h => by
    unfold lits at h
    rw [List.map_cons, List.map_cons] at h
    injection h with h1 h2
    injection h1 with h1
    injection h1 with _ h1
    rw [h1, lits_inj (k := k) (a := a) (b := b) h2]
/-- a row of cart.rows as data -/
def Rw.data (r : Rw) : DataW Unit := .agg [.lit (.int .u8 (r.kind : Int)), .lit (.int .i64 (r.mapper : Int)), .lit (.int .i64 (r.banks : Int)), .lit (.int .u8 (r.lo : Int)), .lit (.int .u8 (r.hi : Int)), .lit (.bool r.bat)]
theorem take_one {l : List Value} {k : Nat} {v : Value} (h : (l.drop k).take 1 = [v]) : l[k]? = some v := by
  have := congrArg (·[0]?) h
  simpa using this
set_option maxRecDepth 100000 in
/-- one row -/
theorem row_cells {W : World} {fuel : Nat} {cs : List Value} {r : Rw} {p : List MemPlace} (h : DataW.trod (fun _ => ()) Tryd.prog W 0 (fun _ => true) false fuel 71 cs = some (r.data, p)) : cs = r.cells := by
  obtain ⟨xs, n, _, ex, hl, hxl, hf⟩ := DataW.trod_struct Tryd.underlying71 h
  have c6 : Tryd.prog.cellsOf 71 = 6 := by kernel_rfl
  have cu : Tryd.prog.cellsOf 5 = 1 := by kernel_rfl
  have cb : Tryd.prog.cellsOf 4 = 1 := by kernel_rfl
  have hx6 : xs.length = 6 := hxl
  have hd : xs.map (·.1) = [.lit (.int .u8 (r.kind : Int)), .lit (.int .i64 (r.mapper : Int)), .lit (.int .i64 (r.banks : Int)), .lit (.int .u8 (r.lo : Int)), .lit (.int .u8 (r.hi : Int)), .lit (.bool r.bat)] := (DataW.agg.inj (Prod.mk.inj ex).1).symm
  have f0 : DataW.trod (fun _ => ()) Tryd.prog W 0 (fun _ => true) false n 5 ((cs.drop 0).take (Tryd.prog.cellsOf 5)) = xs[0]? := hf 0 _ rfl
  have f1 : DataW.trod (fun _ => ()) Tryd.prog W 0 (fun _ => true) false n 3 ((cs.drop 1).take (Tryd.prog.cellsOf 3)) = xs[1]? := hf 1 _ rfl
  have f2 : DataW.trod (fun _ => ()) Tryd.prog W 0 (fun _ => true) false n 3 ((cs.drop 2).take (Tryd.prog.cellsOf 3)) = xs[2]? := hf 2 _ rfl
  have f3 : DataW.trod (fun _ => ()) Tryd.prog W 0 (fun _ => true) false n 5 ((cs.drop 3).take (Tryd.prog.cellsOf 5)) = xs[3]? := hf 3 _ rfl
  have f4 : DataW.trod (fun _ => ()) Tryd.prog W 0 (fun _ => true) false n 5 ((cs.drop 4).take (Tryd.prog.cellsOf 5)) = xs[4]? := hf 4 _ rfl
  have f5 : DataW.trod (fun _ => ()) Tryd.prog W 0 (fun _ => true) false n 4 ((cs.drop 5).take (Tryd.prog.cellsOf 4)) = xs[5]? := hf 5 _ rfl
  rw [cu] at f0 f3 f4
  rw [cells3] at f1 f2
  rw [cb] at f5
  clear hxl hf ex
  match xs, hx6, hd, f0, f1, f2, f3, f4, f5 with
  | [a0, a1, a2, a3, a4, a5], _, hd, f0, f1, f2, f3, f4, f5 =>
    simp only [List.map_cons, List.map_nil, List.cons.injEq, and_true] at hd
    obtain ⟨e0, e1, e2, e3, e4, e5⟩ := hd
    obtain ⟨n0, q0, z0, _⟩ := DataW.trod_int Tryd.underlying5 f0
    obtain ⟨n1, q1, z1, _⟩ := DataW.trod_int Tryd.underlying3 f1
    obtain ⟨n2, q2, z2, _⟩ := DataW.trod_int Tryd.underlying3 f2
    obtain ⟨n3, q3, z3, _⟩ := DataW.trod_int Tryd.underlying5 f3
    obtain ⟨n4, q4, z4, _⟩ := DataW.trod_int Tryd.underlying5 f4
    obtain ⟨n5, q5, z5⟩ := DataW.trod_bool Tryd.underlying4 f5
    subst z0 z1 z2 z3 z4 z5
    injection e0 with e0; injection e0 with _ e0; subst e0
    injection e1 with e1; injection e1 with _ e1; subst e1
    injection e2 with e2; injection e2 with _ e2; subst e2
    injection e3 with e3; injection e3 with _ e3; subst e3
    injection e4 with e4; injection e4 with _ e4; subst e4
    injection e5 with e5; injection e5 with e5; subst e5
    refine List.ext_getElem? fun k => ?_
    match k with
    | 0 => rw [take_one q0]; rfl
    | 1 => rw [take_one q1]; rfl
    | 2 => rw [take_one q2]; rfl
    | 3 => rw [take_one q3]; rfl
    | 4 => rw [take_one q4]; rfl
    | 5 => rw [take_one q5]; rfl
    | k + 6 => rw [List.getElem?_eq_none (by omega), List.getElem?_eq_none (by simp [Rw.cells])]
set_option maxRecDepth 100000 in
theorem rows_of {W : World} {l : List (String × DataW Unit)} (hL : laidMet Tryd.prog l W) (hm : ("arcade/cart.rows", .agg (rowsT.map Rw.data)) ∈ l) : W.rangeAt 1 0 rowsV := by
  obtain ⟨ps, hv, _⟩ := hL
  obtain ⟨g', t', cs, fuel, p, hg', ht', hvar, hd⟩ := laid_at hv _ _ hm
  have hg : Tryd.prog.globalNamed "arcade/cart.rows" = some 1 := by kernel_rfl
  have ht : (Tryd.prog.globals[1]?).map (·.type) = some 103 := by kernel_rfl
  obtain rfl := Option.some.inj (hg.symm.trans hg')
  obtain rfl := Option.some.inj (ht.symm.trans ht')
  obtain ⟨xs, m, _, ex, hl, hxl, hel⟩ := DataW.trod_array Tryd.underlying103 hd
  have c6 : Tryd.prog.cellsOf 71 = 6 := by kernel_rfl
  have c84 : Tryd.prog.cellsOf 103 = 84 := by kernel_rfl
  have e3 : xs.map (·.1) = rowsT.map Rw.data := (DataW.agg.inj (Prod.mk.inj ex).1).symm
  have hr14 : rowsT.length = 14 := rfl
  intro k v hk
  have hk84 : k < 84 := by
    have := (List.getElem?_eq_some_iff.1 hk).1
    exact this
  have hE := hel (k / 6) (by omega)
  rw [c6, List.getElem?_eq_getElem (by omega)] at hE
  obtain ⟨r, hr⟩ : ∃ r, rowsT[k / 6]? = some r := ⟨_, List.getElem?_eq_getElem (by omega)⟩
  have e4 : (xs.map (·.1))[k / 6]? = some r.data := by rw [e3, List.getElem?_map, hr]; rfl
  rw [List.getElem?_map, List.getElem?_eq_getElem (by omega)] at e4
  obtain ⟨d, pp, hdp⟩ : ∃ d pp, xs[k / 6] = (d, pp) := ⟨_, _, rfl⟩
  rw [hdp] at hE e4
  have e5 : d = r.data := by injection e4
  subst e5
  have hc := row_cells hE
  have h1 : cs.toList[k]? = r.cells[k % 6]? := by
    rw [← hc, List.getElem?_take, if_pos (by omega), List.getElem?_drop]
    congr 1
    omega
  have h2 : rowsV[k]? = r.cells[k % 6]? := by
    have := rows_ex (k / 6) r hr
    have h3 := congrArg (·[k % 6]?) this
    simp only [Array.getElem?_extract, List.getElem?_toArray] at h3
    rw [← h3]
    have h84 : rowsV.toArray.size = 84 := rfl
    rw [h84, if_pos (by omega)]
    congr 1
    omega
  rw [Nat.zero_add, World.var?_cell hg hvar k]
  rw [h2, ← h1] at hk
  simpa using hk
set_option maxRecDepth 100000 in
theorem rams_of {W : World} {l : List (String × DataW Unit)} (hL : laidMet Tryd.prog l W) (hm : ("arcade/cart.ramSizes", .agg [.lit (.int .i64 0), .lit (.int .i64 0), .lit (.int .i64 8192), .lit (.int .i64 32768), .lit (.int .i64 131072), .lit (.int .i64 65536)]) ∈ l) : W.rangeAt 2 0 ramsV := by
  obtain ⟨ps, hv, _⟩ := hL
  obtain ⟨g', t', cs, fuel, p, hg', ht', hvar, hd⟩ := laid_at hv _ _ hm
  have hg : Tryd.prog.globalNamed "arcade/cart.ramSizes" = some 2 := by kernel_rfl
  have ht : (Tryd.prog.globals[2]?).map (·.type) = some 107 := by kernel_rfl
  obtain rfl := Option.some.inj (hg.symm.trans hg')
  obtain rfl := Option.some.inj (ht.symm.trans ht')
  obtain ⟨xs, m, _, ex, hl, hxl, hel⟩ := DataW.trod_array Tryd.underlying107 hd
  have e3 : xs.map (·.1) = [.lit (.int .i64 0), .lit (.int .i64 0), .lit (.int .i64 8192), .lit (.int .i64 32768), .lit (.int .i64 131072), .lit (.int .i64 65536)] := (DataW.agg.inj (Prod.mk.inj ex).1).symm
  have key : ∀ k (z : Int), k < 6 → ([.lit (.int .i64 0), .lit (.int .i64 0), .lit (.int .i64 8192), .lit (.int .i64 32768), .lit (.int .i64 131072), .lit (.int .i64 65536)] : List (DataW Unit))[k]? = some (.lit (.int .i64 z)) → W.cell? ⟨2, k, none⟩ = some (.int .i64 z) := by
    intro k z hk hz
    have hE := hel k hk
    rw [cells3, Nat.mul_one, List.getElem?_eq_getElem (by omega)] at hE
    obtain ⟨n, q, e, _⟩ := DataW.trod_int Tryd.underlying3 hE
    have e4 : (xs.map (·.1))[k]? = some (.lit (.int .i64 z)) := by rw [e3]; exact hz
    rw [List.getElem?_map, List.getElem?_eq_getElem (by omega), e] at e4
    have : n = z := by simpa using e4
    subst this
    rw [World.var?_cell hg hvar k]
    simpa using take_one q
  intro k v hk
  have hk6 : k < 6 := (List.getElem?_eq_some_iff.1 hk).1
  rw [Nat.zero_add]
  match k, hk6 with
  | 0, _ => cases hk; exact key 0 _ (by decide) rfl
  | 1, _ => cases hk; exact key 1 _ (by decide) rfl
  | 2, _ => cases hk; exact key 2 _ (by decide) rfl
  | 3, _ => cases hk; exact key 3 _ (by decide) rfl
  | 4, _ => cases hk; exact key 4 _ (by decide) rfl
  | 5, _ => cases hk; exact key 5 _ (by decide) rfl
set_option maxRecDepth 100000 in
theorem types_of {W : World} {l : List (String × DataW Unit)} (hL : laidMet Tryd.prog l W) (hm : ("arcade/arcadelaw4.types", .slice (typesV.map fun z => .lit (.int .i64 z)) []) ∈ l) : Tys W := by
  obtain ⟨ps, hv, _⟩ := hL
  obtain ⟨g', t', cs, fuel, p, hg', ht', hvar, hd⟩ := laid_at hv _ _ hm
  have hg : Tryd.prog.globalNamed "arcade/arcadelaw4.types" = some 0 := by kernel_rfl
  have ht : (Tryd.prog.globals[0]?).map (·.type) = some 25 := by kernel_rfl
  obtain rfl := Option.some.inj (hg.symm.trans hg')
  obtain rfl := Option.some.inj (ht.symm.trans ht')
  rcases open_ints Tryd.underlying25 Tryd.underlying3 cells3 hd with ⟨_, hx⟩ | ⟨a, len, cap, zs, hcs, _, hlc, hmx, hz, hx, hcell, _⟩
  · cases hx
  · have hx1 := (Prod.mk.inj hx).1
    injection hx1 with hx1 hx2
    have hzt : zs.take len = typesV := (lits_inj hx1).symm
    have hzd : zs.drop len = [] := by
      cases hq : zs.drop len with
      | nil => rfl
      | cons y r => rw [hq] at hx2; cases hx2
    simp only [if_true] at hz
    have h1 : zs.length ≤ len := by
      have := congrArg List.length hzd
      rw [List.length_drop, List.length_nil] at this
      omega
    have h2 : zs = typesV := by rw [← hzt, List.take_of_length_le h1]
    have h10 : zs.length = 10 := by rw [h2]; rfl
    have hl10 : len = 10 := by omega
    have hc10 : cap = 10 := by omega
    subst hl10 hc10
    have hc0 : cs[0]? = some (.slice (some a) 10 10) := by
      have : cs.toList[0]? = some (.slice (some a) 10 10) := by rw [hcs]; rfl
      simpa using this
    obtain ⟨b, off, spot⟩ := a
    have hspot : spot = none := by simpa [Addr.add] using World.cell?_spot (hcell 0 (by omega))
    subst hspot
    refine ⟨b, off, 10, by rw [World.var?_cell hg hvar 0]; exact hc0, by decide, by decide, fun k x hk => ?_⟩
    have hk10 : k < 10 := (List.getElem?_eq_some_iff.1 hk).1
    have hc := hcell k (by omega)
    rw [show (⟨b, off, none⟩ : Addr).add k = ⟨b, off + k, none⟩ by unfold Addr.add; split <;> simp_all, h2, List.getD_eq_getElem?_getD, hk] at hc
    exact hc
end Go.Proofs.YtojlappgmckokaaDoor
