/- What the cards of boxes and steps share: how a box, boxes and steps come in. -/
import Derived.Test.YtpiboooiofjigaaDoorCaU
import Derived.Test.YtpiboooiofjigaaDoorCbR
namespace Go.Proofs.YtpiboooiofjigaaDoor
open Go.ChangeShapes Go.WideShapes Go.ChangeAt Go.RowKit Go.Deep
set_option linter.unusedVariables false
theorem up_same {W W' : World} (h : Up W W') {p : MemPlace} (hp : p.block < W.heap.size) : W.sameAt W' p := by
  cases p with
  | cell b off => exact h.cell hp
  | map b => exact h.block b hp
set_option maxRecDepth 100000 in
/-- Numbers as they come in. -/
theorem ints_of {H : Type} {enc : TypeId × Value → H} {W : World} {n : Nat} {aa : Option Addr} {len cap : Nat} {x : DataW H × List MemPlace}
    (h2 : DataW.trod enc Tryd.prog W 0 (fun _ => true) true n 25 [.slice aa len cap] = some x) :
    ∃ (ab ao : Nat) (f : Nat → Int), Ints W aa ab ao len cap f := by
  have z0 : I64 0 := by unfold I64; decide
  rcases open_ints Tryd.underlying25 Tryd.underlying3 cells3 h2 with ⟨hcs, hx⟩ | ⟨a, len', cap', zs, hcs, _, hl, hm, hz, hx, hcell, hwz⟩
  · simp at hcs
    obtain ⟨rfl, rfl, rfl⟩ := hcs
    exact ⟨0, 0, fun _ => 0, Nat.le_refl _, Nat.zero_le _, fun h => by omega, fun _ => z0, fun k hk => by omega⟩
  · simp at hcs
    obtain ⟨rfl, rfl, rfl⟩ := hcs
    simp only [if_true] at hz
    by_cases h0 : len = 0
    · subst h0
      exact ⟨0, 0, fun _ => 0, hl, hm, fun h => by omega, fun _ => z0, fun k hk => by omega⟩
    · obtain ⟨b, off, spot⟩ := a
      have hspot : spot = none := by simpa [Addr.add] using World.cell?_spot (hcell 0 (by omega))
      subst hspot
      refine ⟨b, off, fun k => zs.getD k 0, hl, hm, fun _ => rfl, fun k => ?_, fun k hk => by have hc := hcell k (by omega); rw [show (⟨b, off, none⟩ : Addr).add k = ⟨b, off + k, none⟩ by unfold Addr.add; split <;> simp_all] at hc; exact hc⟩
      show I64 (zs.getD k 0)
      rw [List.getD_eq_getElem?_getD]
      cases h : zs[k]? with
      | none => exact z0
      | some y => exact i64Of (hwz y (List.mem_of_getElem? h))
theorem addOf {b off k : Nat} : (⟨b, off, none⟩ : Addr).add k = ⟨b, off + k, none⟩ := by unfold Addr.add; split <;> simp_all
theorem cBl : Tryd.prog.cellsOf 4 = 1 := by kernel_rfl
theorem cLi : Tryd.prog.cellsOf 25 = 1 := by kernel_rfl
theorem cBx : Tryd.prog.cellsOf 27 = 8 := by kernel_rfl
/-- a box -/
structure Bx where
  ty : Int
  rc : Int
  rm : Int
  sd : Int
  mo : Int
  pa : Option Addr
  pb : Nat
  po : Nat
  pn : Nat
  pc : Nat
  pf : Nat → Int
  ba : Option Addr
  bb : Nat
  bo : Nat
  bn : Nat
  bc : Nat
  bf : Nat → Int
  raw : Bool
def Bx.cells (b : Bx) : List Value := [.int .i64 b.ty, .int .i64 b.rc, .int .i64 b.rm, .int .i64 b.sd, .int .i64 b.mo, .slice b.pa b.pn b.pc, .slice b.ba b.bn b.bc, .bool b.raw]
structure BxAt (W : World) (b : Bx) : Prop where
  i1 : I64 b.ty
  i2 : I64 b.rc
  i3 : I64 b.rm
  i4 : I64 b.sd
  i5 : I64 b.mo
  hP : Ints W b.pa b.pb b.po b.pn b.pc b.pf
  hB : Ints W b.ba b.bb b.bo b.bn b.bc b.bf
theorem list8 {α : Type} : ∀ (l : List α), l.length = 8 → ∃ a b c d e f g h, l = [a, b, c, d, e, f, g, h]
  | [a, b, c, d, e, f, g, h], _ => ⟨a, b, c, d, e, f, g, h, rfl⟩
set_option maxRecDepth 100000 in
/-- A box as it comes in. -/
theorem box_of {H : Type} {enc : TypeId × Value → H} {W : World} {n : Nat} {cs : List Value} {x : DataW H × List MemPlace} (hs : cs.length = 8)
    (h2 : DataW.trod enc Tryd.prog W 0 (fun _ => true) true n 27 cs = some x) : ∃ b : Bx, cs = b.cells ∧ BxAt W b := by
  obtain ⟨xs, k, hk, hxy, _, hxl, hf⟩ := DataW.trod_struct Tryd.underlying27 h2
  obtain ⟨v0, v1, v2, v3, v4, v5, v6, v7, rfl⟩ := list8 cs hs
  obtain ⟨y0, y1, y2, y3, y4, y5, y6, y7, rfl⟩ := list8 xs hxl
  have g0 := hf 0 _ rfl
  have g1 := hf 1 _ rfl
  have g2 := hf 2 _ rfl
  have g3 := hf 3 _ rfl
  have g4 := hf 4 _ rfl
  have g5 := hf 5 _ rfl
  have g6 := hf 6 _ rfl
  have g7 := hf 7 _ rfl
  clear hf hxl hxy hk h2
  simp [cells3, cLi, cBl] at g0 g1 g2 g3 g4 g5 g6 g7
  obtain ⟨a0, e0, f0, w0⟩ := DataW.trod_int Tryd.underlying3 g0
  obtain ⟨a1, e1, f1, w1⟩ := DataW.trod_int Tryd.underlying3 g1
  obtain ⟨a2, e2, f2, w2⟩ := DataW.trod_int Tryd.underlying3 g2
  obtain ⟨a3, e3, f3, w3⟩ := DataW.trod_int Tryd.underlying3 g3
  obtain ⟨a4, e4, f4, w4⟩ := DataW.trod_int Tryd.underlying3 g4
  obtain ⟨a7, e7, f7⟩ := DataW.trod_bool Tryd.underlying4 g7
  simp at e0 e1 e2 e3 e4 e7
  have sl : ∀ {v : Value} {y : DataW H × List MemPlace}, DataW.trod enc Tryd.prog W 0 (fun _ => true) true k 25 [v] = some y → ∃ aa len cap, v = .slice aa len cap := by
    intro v y t1
    rcases open_slice Tryd.underlying25 t1 with ⟨h, _⟩ | ⟨a', l', c', _, _, _, _, h, _⟩
    · simp at h
      exact ⟨_, _, _, h⟩
    · simp at h
      exact ⟨_, _, _, h⟩
  obtain ⟨pa, pn, pc, rfl⟩ := sl g5
  obtain ⟨ba, bn, bc, rfl⟩ := sl g6
  obtain ⟨pb, po, pf, hP⟩ := ints_of g5
  obtain ⟨bb, bo, bf, hB⟩ := ints_of g6
  subst e0 e1 e2 e3 e4 e7
  exact ⟨⟨a0, a1, a2, a3, a4, pa, pb, po, pn, pc, pf, ba, bb, bo, bn, bc, bf, a7⟩, rfl, i64Of w0, i64Of w1, i64Of w2, i64Of w3, i64Of w4, hP, hB⟩
/-- boxes as they come in -/
structure Boxes (W : World) (oa : Option Addr) (ob oo on oc : Nat) (q : Nat → Bx) : Prop where
  lc : on ≤ oc
  cm : oc ≤ maxLen
  ad : 0 < on → oa = some ⟨ob, oo, none⟩
  box : ∀ k, k < on → BxAt W (q k)
  cell : ∀ k, k < on → W.rangeAt ob (oo + k * 8) (q k).cells
set_option maxRecDepth 100000 in
theorem boxes_of {H : Type} {enc : TypeId × Value → H} {W : World} {n : Nat} {aa : Option Addr} {len cap : Nat} {x : DataW H × List MemPlace}
    (h2 : DataW.trod enc Tryd.prog W 0 (fun _ => true) true n 22 [.slice aa len cap] = some x) :
    ∃ (ob oo : Nat) (q : Nat → Bx), Boxes W aa ob oo len cap q := by
  have dflt : Bx := ⟨0, 0, 0, 0, 0, none, 0, 0, 0, 0, fun _ => 0, none, 0, 0, 0, 0, fun _ => 0, false⟩
  rcases open_slice Tryd.underlying22 h2 with ⟨hcs, hx⟩ | ⟨a, len', cap', m, n', D, Pl, hcs, _, hl, hm, hmm, hx, hxx⟩
  · simp at hcs
    obtain ⟨rfl, rfl, rfl⟩ := hcs
    exact ⟨0, 0, fun _ => dflt, Nat.le_refl _, Nat.zero_le _, fun h => by omega, fun k hk => by omega, fun k hk => by omega⟩
  · simp at hcs
    obtain ⟨rfl, rfl, rfl⟩ := hcs
    simp only [if_true] at hmm
    rw [hmm] at hxx
    have each : ∀ i, i < len → ∃ b : Bx, BxAt W b ∧ ∀ (j : Nat) (v : Value), b.cells[j]? = some v → W.cell? (a.add (i * 8 + j)) = some v := by
      intro i hi
      obtain ⟨cs', h1, h3⟩ := hxx i (by omega)
      rw [cBx] at h1
      obtain ⟨_, hlen, hcell⟩ := World.cells?_some h1
      obtain ⟨b, rfl, hb⟩ := box_of hlen h3
      refine ⟨b, hb, fun j v hj => ?_⟩
      have hj8 : j < 8 := (List.getElem?_eq_some_iff.1 hj).1
      have c := hcell j hj8
      rw [add_add] at c
      rw [c]
      exact hj
    have all : ∀ i, ∃ b : Bx, i < len → BxAt W b ∧ ∀ (j : Nat) (v : Value), b.cells[j]? = some v → W.cell? (a.add (i * 8 + j)) = some v := fun i => by
      by_cases hi : i < len
      · obtain ⟨z, h1⟩ := each i hi
        exact ⟨z, fun _ => h1⟩
      · exact ⟨dflt, fun h => absurd h hi⟩
    obtain ⟨q, hq⟩ : ∃ q : Nat → Bx, ∀ i, i < len → BxAt W (q i) ∧ ∀ (j : Nat) (v : Value), (q i).cells[j]? = some v → W.cell? (a.add (i * 8 + j)) = some v := ⟨fun i => Classical.choose (all i), fun i => Classical.choose_spec (all i)⟩
    by_cases h0 : len = 0
    · subst h0
      exact ⟨0, 0, q, hl, hm, fun h => by omega, fun k hk => by omega, fun k hk => by omega⟩
    · obtain ⟨b, off, spot⟩ := a
      have hspot : spot = none := by simpa [Addr.add] using World.cell?_spot ((hq 0 (by omega)).2 0 _ rfl)
      subst hspot
      refine ⟨b, off, q, hl, hm, fun _ => rfl, fun k hk => (hq k hk).1, fun k hk j v hj => ?_⟩
      have := (hq k hk).2 j v hj
      rw [addOf, ← Nat.add_assoc] at this
      exact this
end Go.Proofs.YtpiboooiofjigaaDoor
