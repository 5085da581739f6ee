import Derived.Test.YteijdcidemajfaaMtA
import Derived.Laws.AppendOwnNone
/- Arena: two pools side by side. -/
namespace Go.Proofs.Yteijdcidemajfaa
open Go.RowKit
set_option linter.unusedVariables false
variable {K K' K1 K2 O : Nat → Prop} {w w' W : World} {pb n : Nat} {P P' : Pl} {q : Int}
/-- a pool stands where nothing of its own is changed -/
theorem Pb.keep (h : Pb W K pb P w) (f : FK K2 w w') (hk : ∀ b, b < w.heap.size → ¬ K b → K2 b) (ko : ∀ b, b < W.heap.size → K2 b) : Pb W K pb P w' := by
  obtain ⟨R, A, h1⟩ := h.at'
  refine ⟨⟨R, A, h1.same f.size (fun b r hr => f.block b (h1.lt b r hr) (hk b (h1.lt b r hr) (fun e => ?_))) h1.kn (fun b hb => Nat.lt_of_lt_of_le (h1.kb b hb) f.size)⟩, h.ok, h.up.fk f ko, h.ko⟩
  rw [h1.kn b e] at hr
  cases hr
/-- new blocks are let in -/
def Kn (K : Nat → Prop) (w w' : World) : Nat → Prop := fun b => K b ∨ (w.heap.size ≤ b ∧ b < w'.heap.size)
/-- one side: the pool, the four and their list's block -/
structure Sd where
  K : Nat → Prop
  pb : Nat
  lg : Nat
  P : Pl
  H : Nat → One4
/-- what one side is to the other -/
structure Ap (x y : Sd) (w : World) : Prop where
  kk : ∀ b, b < w.heap.size → ¬ x.K b → y.K b
  kl : y.K x.lg
  nl : y.lg ≠ x.lg
  ok : ∀ i, i < 4 → ∀ b, (x.H i).O b → y.K b ∧ b ≠ y.lg
  di : ∀ i j, i < 4 → j < 4 → ∀ b, (x.H i).O b → ¬ (y.H j).O b
def Sd.at' (s : Sd) (W : World) (n : Nat) (q : Int) (w : World) : Prop := Fp W s.K s.pb n q s.lg s.P s.H w
/-- both -/
structure Tw (W : World) (n : Nat) (q : Int) (x y : Sd) (w : World) : Prop where
  px : x.at' W n q w
  py : y.at' W n q w
  a : Ap x y w
  b : Ap y x w
variable {x y : Sd}
theorem Tw.swap (h : Tw W n q x y w) : Tw W n q y x w := ⟨h.py, h.px, h.b, h.a⟩
theorem Tw.up (h : Tw W n q x y w) : Up W w := h.px.p.up
theorem Tw.more (h : Tw W n q x y w) (u : Up w w') : Tw W n q { x with K := Kn x.K w w' } { y with K := Kn y.K w w' } w' := by
  refine ⟨h.px.moreK u, h.py.moreK u, ⟨fun b hb hn => ?_, Or.inl h.a.kl, h.a.nl, fun i hi b hb => ⟨Or.inl (h.a.ok i hi b hb).1, (h.a.ok i hi b hb).2⟩, h.a.di⟩, ⟨fun b hb hn => ?_, Or.inl h.b.kl, h.b.nl, fun i hi b hb => ⟨Or.inl (h.b.ok i hi b hb).1, (h.b.ok i hi b hb).2⟩, h.b.di⟩⟩
  · by_cases e : b < w.heap.size
    · exact Or.inl (h.a.kk b e (fun k => hn (Or.inl k)))
    · exact (Or.inr ⟨by omega, hb⟩ : y.K b ∨ (w.heap.size ≤ b ∧ b < w'.heap.size))
  · by_cases e : b < w.heap.size
    · exact Or.inl (h.b.kk b e (fun k => hn (Or.inl k)))
    · exact (Or.inr ⟨by omega, hb⟩ : x.K b ∨ (w.heap.size ≤ b ∧ b < w'.heap.size))
/-- the first of the two acts -/
theorem Tw.acted {i : Nat} {lv' bv' : Value} {hl' L' : List Loan} {K' O' : Nat → Prop} (h : Tw W n q x y w) (hi : i < 4) (d1 : Pb W K' x.pb P' w') (d2 : Ht O' w' lv' bv' hl' hl') (d3 : ∀ b, O' b → K' b ∧ W.heap.size ≤ b) (d4 : ∀ b, O' b → (x.H i).O b ∨ w.heap.size ≤ b) (d5 : ∀ b, x.K b → K' b) (d6 : FK (fun b => x.K b ∧ ¬ (x.H i).O b) w w') (l1 : P'.ars = x.P.ars.set i (some ⟨q, L'⟩)) (l2 : keys L' = keys hl') (c1 : Cs n P') :
    Tw W n q ⟨K', x.pb, x.lg, P', upd4 x.H i ⟨lv', bv', hl', L', O'⟩⟩ { y with K := Kn y.K w w' } w' ∧ w'.heap[x.lg]? = w.heap[x.lg]? ∧ w'.heap[y.lg]? = w.heap[y.lg]? := by
  have hx : Fp W x.K x.pb n q x.lg x.P x.H w := h.px
  have hy : Fp W y.K y.pb n q y.lg y.P y.H w := h.py
  obtain ⟨a1, a2⟩ := hx.acted hi d1 d2 d3 d4 d5 d6 l1 l2 c1
  have hyl := hy.kb y.lg hy.kl
  have hsz := d6.size
  have hOx : ∀ j, j < 4 → ∀ b, (x.H j).O b → b < w.heap.size := fun j hj b hb => hx.kb b (hx.ok j hj b hb).1
  have hOy : ∀ j, j < 4 → ∀ b, (y.H j).O b → b < w.heap.size := fun j hj b hb => hy.kb b (hy.ok j hj b hb).1
  have ky : ∀ b, b < w.heap.size → ¬ y.K b → x.K b ∧ ¬ (x.H i).O b := fun b hb hn => ⟨h.b.kk b hb hn, fun e => hn (h.a.ok i hi b e).1⟩
  have kW : ∀ b, b < W.heap.size → x.K b ∧ ¬ (x.H i).O b := fun b hb => ⟨hx.p.ko b hb, fun e => by have := (hx.ok i hi b e).2.1; omega⟩
  have nO : ∀ j, j < 4 → ∀ b, (upd4 x.H i ⟨lv', bv', hl', L', O'⟩ j).O b → (x.H j).O b ∨ w.heap.size ≤ b := fun j hj b hb => by
    by_cases e : j = i
    · subst e
      rw [upd4_same] at hb
      exact d4 b hb
    · rw [upd4_ne _ _ e] at hb
      exact Or.inl hb
  have lO : ∀ j, j < 4 → ∀ b, (upd4 x.H i ⟨lv', bv', hl', L', O'⟩ j).O b → b < w'.heap.size := fun j hj b hb => a1.kb b (a1.ok j hj b hb).1
  have y2 : Fp W (Kn y.K w w') y.pb n q y.lg y.P y.H w' := by
    have p1 : Pb W y.K y.pb y.P w' := hy.p.keep d6 ky kW
    obtain ⟨R, A, r1⟩ := p1.at'
    obtain ⟨R0, A0, r0⟩ := hy.p.at'
    have p2 : Pb W (Kn y.K w w') y.pb y.P w' := by
      obtain ⟨R, A, r0⟩ := hy.p.at'
      refine ⟨⟨R, A, r0.same hsz (fun b r hr => d6.block b (r0.lt b r hr) (ky b (r0.lt b r hr) (fun e => ?_))) (fun b hb => ?_) (fun b hb => ?_)⟩, hy.p.ok, p1.up, fun b hb => Or.inl (hy.p.ko b hb)⟩
      · rw [r0.kn b e] at hr
        cases hr
      · rcases hb with hb | hb
        · exact r0.kn b hb
        · cases hr : R b with
          | none => rfl
          | some r =>
            have := r0.lt b r hr
            omega
      · rcases hb with hb | hb
        · have := r0.kb b hb
          omega
        · exact hb.2
    exact ⟨p2, hy.cs, hy.ar, hy.ky, fun j hj => (hy.ht j hj).same (fun b hb ho => d6.block b hb ⟨(h.b.ok j hj b ho).1, fun e => h.a.di i j hi hj b e ho⟩), fun j hj b hb => ⟨Or.inl (hy.ok j hj b hb).1, (hy.ok j hj b hb).2⟩, hy.di, Or.inl hy.kl, hy.wl⟩
  refine ⟨⟨a1, y2, ⟨fun b hb hn => ?_, Or.inl h.a.kl, h.a.nl, fun j hj b hb => ?_, fun j k hj hk b hb hc => ?_⟩, ⟨fun b hb hn => ?_, d5 _ h.b.kl, h.b.nl, fun j hj b hb => ⟨d5 b (h.b.ok j hj b hb).1, (h.b.ok j hj b hb).2⟩, fun j k hj hk b hb hc => ?_⟩⟩, a2, d6.block y.lg hyl ⟨h.b.kl, fun e => (h.a.ok i hi _ e).2 rfl⟩⟩
  · by_cases e : b < w.heap.size
    · exact Or.inl (h.a.kk b e (fun k => hn (d5 b k)))
    · exact (Or.inr ⟨by omega, hb⟩ : y.K b ∨ (w.heap.size ≤ b ∧ b < w'.heap.size))
  · rcases nO j hj b hb with e | e
    · exact ⟨Or.inl (h.a.ok j hj b e).1, (h.a.ok j hj b e).2⟩
    · exact ⟨(Or.inr ⟨e, lO j hj b hb⟩ : y.K b ∨ (w.heap.size ≤ b ∧ b < w'.heap.size)), fun e2 => by have e2 : b = y.lg := e2; omega⟩
  · rcases nO j hj b hb with e | e
    · exact h.a.di j k hj hk b e hc
    · have := hOy k hk b hc
      omega
  · by_cases e : b < w.heap.size
    · exact d5 b (h.b.kk b e (fun k => hn (Or.inl k)))
    · exact (hn (Or.inr ⟨by omega, hb⟩ : y.K b ∨ (w.heap.size ≤ b ∧ b < w'.heap.size))).elim
  · rcases nO k hk b hc with e | e
    · exact h.b.di j k hj hk b hb e
    · have := hOy j hj b hb
      omega
end Go.Proofs.Yteijdcidemajfaa
/- Arena: two pools in which the same is done. -/
namespace Go.Proofs.Yteijdcidemajfaa
open Go.RowKit
set_option linter.unusedVariables false
variable {K K' K1 K2 O : Nat → Prop} {w w' W : World} {pb n : Nat} {P P' : Pl} {q : Int} {x y : Sd}
/-- how many of a class -/
def cnt (c : Nat) (l : List NB) : Nat := (l.filter (fun x => x.1 == c)).length
theorem lentOf_len (c : Nat) (a : Arn) : (lentOf c (some a)).length = cnt c (nbs a.loans) := by
  unfold lentOf cnt nbs
  dsimp only
  rw [List.length_map, List.filter_map, List.length_map]
  rfl
theorem nbs_keys {a b : List Loan} (h : keys a = keys b) : nbs a = nbs b := by
  have : (keys a).map (fun x => ((x.2.1, x.2.2.1, x.2.2.2) : NB)) = (keys b).map (fun x => ((x.2.1, x.2.2.1, x.2.2.2) : NB)) := by rw [h]
  unfold keys at this
  rw [List.map_map, List.map_map] at this
  exact this
/-- five arenas, and the last is not open -/
def Five (P : Pl) : Prop := P.ars.length = 5 ∧ P.ars[4]? = some none
theorem Five.set {i : Nat} {a : Option Arn} (h : Five P) (hi : i < 4) (e : P'.ars = P.ars.set i a) : Five P' := by
  obtain ⟨h1, h2⟩ := h
  refine ⟨by rw [e, List.length_set, h1], ?_⟩
  rw [e, List.getElem?_set, if_neg (by omega), h2]
theorem Fp.count {lg : Nat} {H : Nat → One4} (h : Fp W K pb n q lg P H w) (f : Five P) (c : Nat) : P.freeN c = if c < 2 then n - (cnt c (nbs (H 0).hl) + cnt c (nbs (H 1).hl) + cnt c (nbs (H 2).hl) + cnt c (nbs (H 3).hl)) else 0 := by
  obtain ⟨F0, F1, e⟩ := h.cs
  obtain ⟨f1, f2⟩ := f
  have a0 := h.ar 0 (by decide)
  have a1 := h.ar 1 (by decide)
  have a2 := h.ar 2 (by decide)
  have a3 := h.ar 3 (by decide)
  have hars : P.ars = [some ⟨q, (H 0).ls⟩, some ⟨q, (H 1).ls⟩, some ⟨q, (H 2).ls⟩, some ⟨q, (H 3).ls⟩, none] := by
    refine List.ext_getElem? (fun k => ?_)
    match k with
    | 0 => exact a0
    | 1 => exact a1
    | 2 => exact a2
    | 3 => exact a3
    | 4 => exact f2
    | k + 5 => rw [List.getElem?_eq_none (by omega), List.getElem?_eq_none (by simp)]
  have hl : ∀ c, (lent P.ars c).length = cnt c (nbs (H 0).hl) + cnt c (nbs (H 1).hl) + cnt c (nbs (H 2).hl) + cnt c (nbs (H 3).hl) := fun c => by
    unfold lent
    rw [hars]
    simp only [List.flatMap_cons, List.flatMap_nil, List.length_append, lentOf_len, List.length_nil]
    rw [nbs_keys (h.ky 0 (by decide)), nbs_keys (h.ky 1 (by decide)), nbs_keys (h.ky 2 (by decide)), nbs_keys (h.ky 3 (by decide))]
    show _ + (_ + (_ + (_ + ((lentOf c none).length + 0)))) = _
    have : (lentOf c none).length = 0 := rfl
    omega
  have key : ∀ x, P.cls[c]? = some x → x.many = n → x.free.length = n - (cnt c (nbs (H 0).hl) + cnt c (nbs (H 1).hl) + cnt c (nbs (H 2).hl) + cnt c (nbs (H 3).hl)) := fun x hx hm => by
    have := (h.p.ok.pm c x hx).length_eq
    rw [List.length_append, List.length_range', hl, hm] at this
    omega
  unfold Pl.freeN
  match c with
  | 0 =>
    have hx : P.cls[0]? = some ⟨4, 0, n, F0⟩ := by rw [e]; rfl
    rw [hx, if_pos (by decide)]
    exact key _ hx rfl
  | 1 =>
    have hx : P.cls[1]? = some ⟨16, n, n, F1⟩ := by rw [e]; rfl
    rw [hx, if_pos (by decide)]
    exact key _ hx rfl
  | c + 2 =>
    have hx : P.cls[c + 2]? = none := by rw [e]; exact List.getElem?_eq_none (by simp)
    rw [hx, if_neg (by omega)]
/-- the pick of a take changes nothing -/
theorem actF_pick {kd sz pk pk2 at' by' : Int} {fl : Nat → Nat} {ls : List NB} (h : pickI kd 8 < 2 ∨ pk2 = pk) : actF kd sz pk2 at' by' q fl ls = actF kd sz pk at' by' q fl ls := by
  rcases h with h | rfl
  · unfold actF
    have e : pickI kd 8 ≤ 1 := by omega
    simp only [if_pos e]
  · rfl
/-- both pools, and what their lists' rows say -/
structure Mi (W : World) (n : Nat) (q : Int) (x y : Sd) (c1 c2 : Nat) (X Y : Nat → One4) (w : World) : Prop where
  t : Tw W n q x y w
  r1 : Row4 w x.lg c1 X
  r2 : Row4 w y.lg c2 Y
  f1 : Five x.P
  f2 : Five y.P
variable {c1 c2 : Nat} {X Y : Nat → One4}
theorem Mi.swap (h : Mi W n q x y c1 c2 X Y w) : Mi W n q y x c2 c1 Y X w := ⟨h.t.swap, h.r2, h.r1, h.f2, h.f1⟩
theorem Mi.up (h : Mi W n q x y c1 c2 X Y w) : Up W w := h.t.up
theorem Mi.lgs (h : Mi W n q x y c1 c2 X Y w) : x.lg < w.heap.size ∧ y.lg < w.heap.size := ⟨Fp.kb h.t.px _ h.t.px.kl, Fp.kb h.t.py _ h.t.py.kl⟩
theorem Mi.more (h : Mi W n q x y c1 c2 X Y w) (u : Up w w') : Mi W n q { x with K := Kn x.K w w' } { y with K := Kn y.K w w' } c1 c2 X Y w' :=
  ⟨h.t.more u, h.r1.of (u.block _ h.lgs.1), h.r2.of (u.block _ h.lgs.2), h.f1, h.f2⟩
/-- a new block may be written -/
theorem Fp.frN {lg g : Nat} {H : Nat → One4} (h : Fp W K pb n q lg P H w) (f : Fr g w w') (hk : K g) (hg : W.heap.size ≤ g) (hl : lg ≠ g) (ho : ∀ i, i < 4 → ¬ (H i).O g) : Fp W (Kn K w w') pb n q lg P H w' := by
  have h1 := h.frG f hk hg hl ho
  refine ⟨?_, h1.cs, h1.ar, h1.ky, h1.ht, fun i hi b hb => ⟨Or.inl (h1.ok i hi b hb).1, (h1.ok i hi b hb).2⟩, h1.di, Or.inl h1.kl, h1.wl⟩
  obtain ⟨R, A, r⟩ := h.p.at'
  refine ⟨⟨R, A, r.same f.size (fun b s hr => f.block b (r.lt b s hr) (fun e => ?_)) (fun b hb => ?_) (fun b hb => ?_)⟩, h.p.ok, h1.p.up, fun b hb => Or.inl (h.p.ko b hb)⟩
  · rw [e, r.kn g hk] at hr
    cases hr
  · rcases hb with hb | hb
    · exact r.kn b hb
    · cases hr : R b with
      | none => rfl
      | some s =>
        have := r.lt b s hr
        omega
  · rcases hb with hb | hb
    · have := r.kb b hb
      have := f.size
      omega
    · exact hb.2
theorem Mi.frN {g : Nat} (h : Mi W n q x y c1 c2 X Y w) (f : Fr g w w') (hx : x.K g) (hy : y.K g) (hg : W.heap.size ≤ g) (hl : x.lg ≠ g ∧ y.lg ≠ g) (ho : ∀ i, i < 4 → ¬ (x.H i).O g ∧ ¬ (y.H i).O g) : Mi W n q { x with K := Kn x.K w w' } { y with K := Kn y.K w w' } c1 c2 X Y w' := by
  have t := h.t
  refine ⟨⟨Fp.frN t.px f hx hg hl.1 (fun i hi => (ho i hi).1), Fp.frN t.py f hy hg hl.2 (fun i hi => (ho i hi).2), ⟨fun b hb hn => ?_, Or.inl t.a.kl, t.a.nl, fun i hi b hb => ⟨Or.inl (t.a.ok i hi b hb).1, (t.a.ok i hi b hb).2⟩, t.a.di⟩, ⟨fun b hb hn => ?_, Or.inl t.b.kl, t.b.nl, fun i hi b hb => ⟨Or.inl (t.b.ok i hi b hb).1, (t.b.ok i hi b hb).2⟩, t.b.di⟩⟩, h.r1.of (f.block _ h.lgs.1 hl.1), h.r2.of (f.block _ h.lgs.2 hl.2), h.f1, h.f2⟩
  · by_cases e : b < w.heap.size
    · exact Or.inl (t.a.kk b e (fun k => hn (Or.inl k)))
    · exact (Or.inr ⟨by omega, hb⟩ : y.K b ∨ (w.heap.size ≤ b ∧ b < w'.heap.size))
  · by_cases e : b < w.heap.size
    · exact Or.inl (t.b.kk b e (fun k => hn (Or.inl k)))
    · exact (Or.inr ⟨by omega, hb⟩ : x.K b ∨ (w.heap.size ≤ b ∧ b < w'.heap.size))
/-- the first pool's act -/
theorem Mi.act (HA : ActsAny) (h : Mi W n q x y c1 c2 X Y w) (q0 : 0 ≤ q) (q1 : q ≤ 1000) {i : Nat} (hi : i < 4) {kd who sz pk at' by' : Int} (i1 : I64 kd) (i3 : I64 sz) (i4 : I64 pk) (i5 : I64 at') (i6 : I64 by') {w2 : World} (u2 : Up w w2) : Calls Try.prog 23 #[.pointer (some ⟨x.pb, 0, none⟩), .agg #[.int .i64 (i : Int), (x.H i).lv, (x.H i).bv], .agg #[.int .i64 kd, .int .i64 who, .int .i64 sz, .int .i64 pk, .int .i64 at', .int .i64 by'], .int .i64 q] w2 fun e w' => ∃ a1 n1 d1 a2 n2 d2 hl' L' O', e = .returned (.tuple #[.agg #[.int .i64 (i : Int), .slice a1 n1 d1, .slice a2 n2 d2], .bool true]) ∧ w2.heap.size ≤ w'.heap.size ∧ (∀ b, w.heap.size ≤ b → b < w2.heap.size → w'.heap[b]? = w2.heap[b]?) ∧ nbs hl' = actF kd sz pk at' by' q x.P.freeN (nbs (x.H i).hl) ∧ (∀ b, b < w.heap.size → x.K b → ¬ (x.H i).O b → w'.heap[b]? = w2.heap[b]?) ∧ ∀ g w3, w.heap.size ≤ g → (g < w2.heap.size ∨ w'.heap.size ≤ g) → Fr g w' w3 → ∃ K' K2 P', Mi W n q ⟨K', x.pb, x.lg, P', upd4 x.H i ⟨.slice a1 n1 d1, .slice a2 n2 d2, hl', L', O'⟩⟩ { y with K := K2 } c1 c2 X Y w3 ∧ (g < w3.heap.size → K2 g) ∧ (∀ b, w.heap.size ≤ b → b < w2.heap.size → K2 b) := by
  have h2 := h.more u2
  have t2 := h2.t
  have px : Fp W (Kn x.K w w2) x.pb n q x.lg x.P x.H w2 := t2.px
  refine (HA _ (x.H i).O w2 W x.pb n i x.P (x.H i).lv (x.H i).bv (x.H i).hl (x.H i).ls q kd who sz pk at' by' i1 i3 i4 i5 i6 px.p (px.ht i hi) (fun b hb => ⟨(px.ok i hi b hb).1, (px.ok i hi b hb).2.1⟩) (px.ar i hi) (px.ky i hi) px.cs q0 q1 (px.opens hi)).mono ?_
  rintro e w' ⟨lv', bv', hl', P', K', O', L', rfl, d1, d2, d3, d4, d5, d6, l1, l2, z1, n1⟩
  obtain ⟨t3, s1, s2⟩ := t2.acted hi d1 d2 d3 d4 d5 d6 l1 l2 z1
  obtain ⟨va, vn, vc, rfl⟩ := own_slice3 d2.lo
  obtain ⟨ua, un, uc, rfl⟩ := own_slice3 d2.bo
  have hlg := h.lgs
  have hWs := h.up.size
  have hOx : ∀ j, j < 4 → ∀ b, (x.H j).O b → b < w.heap.size := fun j hj b hb => Fp.kb h.t.px b (h.t.px.ok j hj b hb).1
  have hOy : ∀ j, j < 4 → ∀ b, (y.H j).O b → b < w.heap.size := fun j hj b hb => Fp.kb h.t.py b (h.t.py.ok j hj b hb).1
  have hs2 := u2.size
  have hs3 := d6.size
  have m3 : Mi W n q ⟨K', x.pb, x.lg, P', upd4 x.H i ⟨.slice va vn vc, .slice ua un uc, hl', L', O'⟩⟩ { y with K := Kn (Kn y.K w w2) w2 w' } c1 c2 X Y w' := ⟨t3, h2.r1.of s1, h2.r2.of s2, Five.set (P := x.P) h.f1 hi l1, h.f2⟩
  refine ⟨va, vn, vc, ua, un, uc, hl', L', O', rfl, d6.size, fun b hb hb2 => d6.block b hb2 ⟨Or.inr ⟨hb, hb2⟩, fun e => ?_⟩, n1, fun b hb hk ho => d6.block b (by omega) ⟨Or.inl hk, ho⟩, fun g w3 hg hg2 f => ?_⟩
  · have := hOx i hi b e
    omega
  rcases hg2 with hg2 | hg2
  · refine ⟨_, _, _, m3.frN f (d5 g (Or.inr ⟨hg, hg2⟩)) (Or.inl (Or.inr ⟨hg, hg2⟩)) (by omega) ⟨?_, ?_⟩ (fun j hj => ⟨fun e => ?_, fun e => ?_⟩), fun _ => Or.inl (Or.inl (Or.inr ⟨hg, hg2⟩)), fun b h1 h2 => Or.inl (Or.inl (Or.inr ⟨h1, h2⟩))⟩
    · show x.lg ≠ g
      omega
    · show y.lg ≠ g
      omega
    · by_cases ej : j = i
      · subst ej
        have e : O' g := by
          have e : (upd4 x.H j ⟨.slice va vn vc, .slice ua un uc, hl', L', O'⟩ j).O g := e
          rw [upd4_same] at e
          exact e
        rcases d4 g e with e3 | e3
        · have := hOx j hj g e3
          omega
        · omega
      · have e : (upd4 x.H i ⟨.slice va vn vc, .slice ua un uc, hl', L', O'⟩ j).O g := e
        rw [upd4_ne _ _ ej] at e
        have := hOx j hj g e
        omega
    · have := hOy j hj g e
      omega
  · exact ⟨_, _, _, m3.more ⟨f.os, f.output, f.size, fun b hb => f.block b hb (by omega)⟩, fun hz => Or.inr ⟨hg2, hz⟩, fun b h1 h2 => Or.inl (Or.inl (Or.inr ⟨h1, h2⟩))⟩
end Go.Proofs.Yteijdcidemajfaa
/- Arena: two pools in which the same is done: what the law reads. -/
namespace Go.Proofs.Yteijdcidemajfaa
open Go.RowKit
set_option linter.unusedVariables false
variable {K K' K1 K2 O : Nat → Prop} {w w' W : World} {pb n i : Nat} {P P' : Pl} {q : Int} {x y : Sd} {hl L : List Loan}
/-- what one holds, as it is read -/
structure Hv (w : World) (pb i : Nat) (va : Option Addr) (vn vc : Nat) (ua : Option Addr) (un uc : Nat) (hl : List Loan) : Prop where
  len : vn = hl.length ∧ vn ≤ vc ∧ vc ≤ 9223372036854775807
  few : hl.length ≤ 4096
  sz : ∀ l ∈ hl, l.size ≤ 65536
  size : ∀ w', Up w w' → Calls Try.prog 24 #[.agg #[.int .i64 (i : Int), .slice va vn vc, .slice ua un uc]] w' fun e w2 => e = .returned (.int .i64 (sizes hl : Nat)) ∧ Up w' w2
  load : ∀ (w' : World) (k : Nat) (l : Loan), Up w w' → hl[k]? = some l → Calls Try.prog 20 #[.pointer (some ⟨pb, 0, none⟩), .int .i64 (i : Int), .int .i64 (l.buf : Int), .int .i64 0, .int .i64 (l.size : Int)] w' fun e w2 => ∃ g cap, e = .returned (.tuple #[.slice (some ⟨g, 0, none⟩) l.size cap, .int .i64 0]) ∧ Lst w2 g l.size cap l.f ∧ Up w' w2
  cell : ∀ (k : Nat) (l : Loan), hl[k]? = some l → ∃ lg, va = some ⟨lg, 0, none⟩ ∧ ∀ w', Up w w' → w'.cell? ⟨lg, k * 3, none⟩ = some (.int .i64 (l.buf : Int)) ∧ w'.cell? ⟨lg, k * 3 + 2, none⟩ = some (.int .i64 (l.size : Int))
theorem hv_of {va ua : Option Addr} {vn vc un uc : Nat} (hp : Pb W K pb P w) (hh : Ht O w (.slice va vn vc) (.slice ua un uc) hl hl) (ha : P.ars[i]? = some (some ⟨q, L⟩)) (hk : keys L = keys hl) (hc : Cs n P) : Hv w pb i va vn vc ua un uc hl := by
  have hil : i ≤ 64 := by
    have := (List.getElem?_eq_some_iff.1 ha).1
    have := hp.ok.na
    omega
  have hl4 : hl.length ≤ 4096 := by rw [← keys_len hk]; exact hp.ok.loans ha
  have HSz : ∀ l ∈ hl, l.size ≤ 65536 := keys_le hk (fun l hl' => (hp.ok.size ha hl').2)
  obtain ⟨hvn, hvc1, hvc2⟩ : vn = hl.length ∧ vn ≤ vc ∧ vc ≤ 9223372036854775807 := by
    rcases own_cases hh.lo with ⟨hv, hn0, _⟩ | ⟨g, cap, hv, hc1, hm, _⟩
    · injection hv with _ e2 e3
      exact ⟨by omega, by omega, by omega⟩
    · injection hv with _ e2 e3
      unfold maxLen at hm
      exact ⟨e2, by omega, by omega⟩
  subst hvn
  have hsz : sizes hl ≤ 65536 * 4096 := by
    have := sizes_le (ls := hl) HSz
    have h2 : 65536 * hl.length ≤ 65536 * 4096 := Nat.mul_le_mul_left _ hl4
    omega
  refine ⟨⟨rfl, hvc1, hvc2⟩, hl4, HSz, fun w' u => size_any (ownsRow_up hh.lo u) HSz (by omega), fun w' k l u hl' => ?_, fun k l hl' => ?_⟩
  · obtain ⟨m, hm, hmk⟩ := keys_at hk.symm hl'
    have hsp := span_at hp.ok hc ha hm
    have hms := hp.ok.size ha (List.mem_of_getElem? hm)
    obtain ⟨x, hx, _⟩ := hp.ok.ln i _ m ha (List.mem_of_getElem? hm)
    have hbr := buf_range hp.ok ha hm hx
    have hmy := hp.ok.my _ x hx
    injection hmk with e1 hmk
    injection hmk with e2 hmk
    injection hmk with e3 e4
    rw [e1, e3] at hsp
    refine ((hp.more u).load (b := (l.buf : Int)) (n := (l.size : Int)) ⟨by omega, by omega⟩ ⟨by omega, by omega⟩ ⟨by decide, by decide⟩ ⟨by omega, by omega⟩ hsp).mono fun e w2 ⟨g, cap, g1, _, g2, g3⟩ => ⟨g, cap, g1, ?_, g3⟩
    rw [← e4]
    exact ⟨g2.lt, g2.nc, g2.cm, fun j hj => by have := g2.cell j hj; rwa [Nat.zero_add] at this⟩
  · have hkl := (List.getElem?_eq_some_iff.1 hl').1
    rcases own_cases hh.lo with ⟨_, hn0, _⟩ | ⟨lg, c1, hv1, _⟩
    · omega
    have hv2 := hv1
    injection hv1 with hv1 _ _
    refine ⟨lg, hv1, fun w' u => ?_⟩
    have lo := ownsRow_up hh.lo u
    rw [hv2] at lo
    have lc : ∀ r, r < 3 → w'.cell? ⟨lg, k * 3 + r, none⟩ = l.lease[r]? := fun r hr => by
      have := own_cell lo (k * 3 + r) (by omega)
      rw [Nat.zero_add] at this
      rw [this]
      exact leaseCells_at hl k r l hl' hr
    exact ⟨lc 0 (by decide), lc 2 (by decide)⟩
/-- the beginning: five arenas, the last of them not open -/
theorem Fp.house5 {V : Value} (h : Hs W K pb n q V 4 4 w) : ∃ lg cap P, V = .slice (some ⟨lg, 0, none⟩) 4 cap ∧ 4 ≤ cap ∧ cap ≤ 9223372036854775807 ∧ Fp W K pb n q lg P (fun _ => ⟨.slice none 0 0, .slice none 0 0, [], [], fun _ => False⟩) w ∧ Row4 w lg cap (fun _ => ⟨.slice none 0 0, .slice none 0 0, [], [], fun _ => False⟩) ∧ Five P := by
  obtain ⟨P, h1, h2, h3⟩ := h.at'
  obtain ⟨lg, cap, _, hv, hc, _, p2⟩ := Fp.house (n := n) ⟨⟨P, h1, h2, h3⟩, h.own, h.kv⟩
  have c4 : 4 ≤ cap := by
    obtain ⟨_, _, _, h, _⟩ := p2
    exact h
  have ow := h.own
  rw [hv] at ow
  obtain ⟨cur, q1, q2, q3, q4, q5, q6, q7⟩ := own_open ow
  refine ⟨lg, cap, P, hv, c4, hc, ⟨h1, ?_, fun i hi => ?_, fun i hi => rfl, fun i hi => Ht.nil _ w, fun i hi b hb => hb.elim, fun i j hi hj hij b hb => hb.elim, h.kv lg (by rw [hv]; rfl), q2⟩, p2, ?_⟩
  · exact ⟨List.range' 0 n, List.range' n n, h3.trans (by simp [mkCls])⟩
  · rw [h2]
    have : i = 0 ∨ i = 1 ∨ i = 2 ∨ i = 3 := by omega
    rcases this with rfl | rfl | rfl | rfl <;> rfl
  · unfold Five
    rw [h2]
    exact ⟨rfl, rfl⟩
def H0 : Nat → One4 := fun _ => ⟨.slice none 0 0, .slice none 0 0, [], [], fun _ => False⟩
theorem two_houses {w1 : World} {pb1 pb2 lg1 lg2 c1 c2 : Nat} {P1 P2 : Pl} (h1 : Fp W K1 pb1 n q lg1 P1 H0 w1) (r1 : Row4 w1 lg1 c1 H0) (f1 : Five P1) (h2 : Fp w1 K2 pb2 n q lg2 P2 H0 w) (r2 : Row4 w lg2 c2 H0) (f2 : Five P2) : Mi W n q ⟨Kn K1 w1 w, pb1, lg1, P1, H0⟩ ⟨K2, pb2, lg2, P2, H0⟩ c1 c2 H0 H0 w := by
  have u : Up w1 w := h2.p.up
  have l1 := h1.kb lg1 h1.kl
  have l2 := h2.kb lg2 h2.kl
  have s1 := h1.p.up.size
  have y2 : Fp W K2 pb2 n q lg2 P2 H0 w := ⟨⟨h2.p.at', h2.p.ok, h1.p.up.trans u, fun b hb => h2.p.ko b (by omega)⟩, h2.cs, h2.ar, h2.ky, h2.ht, fun i hi b hb => hb.elim, h2.di, h2.kl, Nat.le_trans s1 h2.wl⟩
  have wl := h2.wl
  refine ⟨⟨h1.moreK u, y2, ⟨fun b hb hn => ?_, h2.p.ko lg1 l1, ?_, fun i hi b hb => hb.elim, fun i j hi hj b hb => hb.elim⟩, ⟨fun b hb hn => ?_, Or.inr ⟨h2.wl, l2⟩, ?_, fun i hi b hb => hb.elim, fun i j hi hj b hb => hb.elim⟩⟩, r1.of (u.block lg1 l1), r2, f1, f2⟩
  · refine h2.p.ko b ?_
    by_cases e : b < w1.heap.size
    · exact e
    · exact (hn (Or.inr ⟨by omega, hb⟩ : K1 b ∨ (w1.heap.size ≤ b ∧ b < w.heap.size))).elim
  · show lg2 ≠ lg1
    omega
  · by_cases e : b < w1.heap.size
    · exact (hn (h2.p.ko b e)).elim
    · exact (Or.inr ⟨by omega, hb⟩ : K1 b ∨ (w1.heap.size ≤ b ∧ b < w.heap.size))
  · show lg1 ≠ lg2
    omega
end Go.Proofs.Yteijdcidemajfaa
/- Arena: nothing is lost: the four, and what is free. -/
namespace Go.Proofs.Yteijdcidemajfaa
open Go.RowKit
set_option linter.unusedVariables false
variable {K K' O : Nat → Prop} {w w' W : World} {pb n lg cap : Nat} {P P' : Pl} {q : Int} {H : Nat → One4}
theorem nbSize_append (a b : List NB) : nbSize (a ++ b) = nbSize a + nbSize b := by
  unfold nbSize
  rw [List.map_append, List.sum_append]
theorem nbSize_erase (ls : List NB) (k : Nat) : nbSize (ls.eraseIdx k) ≤ nbSize ls := by
  induction ls generalizing k with
  | nil => simp
  | cons x r ih =>
    cases k with
    | zero => 
      rw [List.eraseIdx_cons_zero]
      show nbSize r ≤ nbSize ([x] ++ r)
      rw [nbSize_append]
      omega
    | succ k =>
      rw [List.eraseIdx_cons_succ]
      show nbSize ([x] ++ r.eraseIdx k) ≤ nbSize ([x] ++ r)
      rw [nbSize_append, nbSize_append]
      have := ih k
      omega
theorem nbSize_set (ls : List NB) (k : Nat) {x y : NB} (hx : ls[k]? = some x) (e : y.2.1 = x.2.1) : nbSize (ls.set k y) = nbSize ls := by
  induction ls generalizing k with
  | nil => simp at hx
  | cons z r ih =>
    cases k with
    | zero =>
      simp at hx
      subst hx
      rw [List.set_cons_zero]
      show nbSize ([y] ++ r) = nbSize ([z] ++ r)
      rw [nbSize_append, nbSize_append]
      unfold nbSize
      simp [e]
    | succ k =>
      rw [List.set_cons_succ]
      show nbSize ([z] ++ r.set k y) = nbSize ([z] ++ r)
      rw [nbSize_append, nbSize_append, ih k (by simpa using hx)]
/-- no act takes more than its quota -/
theorem actF_le {kd sz pk at' by' : Int} {fl : Nat → Nat} {ls : List NB} (q0 : 0 ≤ q) (h : (nbSize ls : Int) ≤ q) : (nbSize (actF kd sz pk at' by' q fl ls) : Int) ≤ q := by
  unfold actF
  split
  · split
    · exact h
    · split
      · exact h
      · rw [nbSize_append]
        have : nbSize [((clsOf (1 + pickI sz 16), hasOf (1 + pickI sz 16), (fun _ => (0 : Int))) : NB)] = hasOf (1 + pickI sz 16) := by simp [nbSize]
        rw [this]
        omega
  · split
    · split
      · rename_i x hx
        rw [nbSize_set ls _ hx (y := nbStored x (pickI at' x.2.1).toNat (by' % 256)) rfl]
        exact h
      · exact h
    · split
      · have := nbSize_erase ls (pickI pk ls.length).toNat
        omega
      · split
        · exact q0
        · exact h
/-- the buffers of the first k -/
def bufsTo (L : Nat → List Loan) : Nat → List Nat
  | 0 => []
  | k + 1 => bufsTo L k ++ (L k).map (·.buf)
theorem split2 (L : List Loan) (h : ∀ l ∈ L, l.cls < 2) (a : Nat) : (L.map (·.buf)).count a = ((L.filter (fun l => l.cls == 0)).map (·.buf)).count a + ((L.filter (fun l => l.cls == 1)).map (·.buf)).count a := by
  induction L with
  | nil => rfl
  | cons x r ih =>
    have ih := ih (fun l hl => h l (by simp [hl]))
    have hx := h x (by simp)
    have : x.cls = 0 ∨ x.cls = 1 := by omega
    rw [List.map_cons, List.count_cons, List.filter_cons, List.filter_cons, ih]
    rcases this with e | e
    · simp [e, List.count_cons]
      omega
    · simp [e, List.count_cons]
      omega
theorem Fp.ars5 (h : Fp W K pb n q lg P H w) (f : Five P) : P.ars = [some ⟨q, (H 0).ls⟩, some ⟨q, (H 1).ls⟩, some ⟨q, (H 2).ls⟩, some ⟨q, (H 3).ls⟩, none] := by
  obtain ⟨f1, f2⟩ := f
  refine List.ext_getElem? (fun k => ?_)
  match k with
  | 0 => exact h.ar 0 (by decide)
  | 1 => exact h.ar 1 (by decide)
  | 2 => exact h.ar 2 (by decide)
  | 3 => exact h.ar 3 (by decide)
  | 4 => exact f2
  | k + 5 => rw [List.getElem?_eq_none (by omega), List.getElem?_eq_none (by simp)]
theorem Fp.told (h : Fp W K pb n q lg P H w) (f : Five P) : ∃ F0 F1, P.cls = [⟨4, 0, n, F0⟩, ⟨16, n, n, F1⟩] ∧ (F0 ++ F1 ++ bufsTo (fun i => (H i).ls) 4).Perm (List.range' 0 (2 * n)) := by
  obtain ⟨F0, F1, e⟩ := h.cs
  have hars := h.ars5 f
  refine ⟨F0, F1, e, ?_⟩
  have h2 : ∀ i, i < 4 → ∀ l ∈ (H i).ls, l.cls < 2 := fun i hi l hl => by
    obtain ⟨x, hx, _⟩ := h.p.ok.ln i _ l (h.ar i hi) hl
    have := (List.getElem?_eq_some_iff.1 hx).1
    rw [e] at this
    simpa using this
  have p0 := h.p.ok.pm 0 _ (by rw [e]; rfl)
  have p1 := h.p.ok.pm 1 _ (by rw [e]; rfl)
  rw [hars] at p0 p1
  refine List.perm_iff_count.2 fun a => ?_
  have c0 := p0.count_eq a
  have c1 := p1.count_eq a
  have er : List.range' 0 (2 * n) = List.range' 0 n ++ List.range' n n := by
    rw [Nat.two_mul]
    have := List.range'_append_1 (s := 0) (m := n) (n := n)
    rw [Nat.zero_add] at this
    exact this.symm
  have s0 := split2 (H 0).ls (h2 0 (by decide)) a
  have s1 := split2 (H 1).ls (h2 1 (by decide)) a
  have s2 := split2 (H 2).ls (h2 2 (by decide)) a
  have s3 := split2 (H 3).ls (h2 3 (by decide)) a
  rw [er]
  unfold lent at c0 c1
  simp only [List.flatMap_cons, List.flatMap_nil, lentOf, List.append_nil, List.count_append] at c0 c1
  simp only [bufsTo, List.nil_append, List.count_append]
  omega
/-- the four, the pool and the list of the four; no quota is exceeded -/
def K4 (W : World) (pb n : Nat) (q : Int) (lg cap : Nat) (w : World) : Prop := ∃ K P H, Fp W K pb n q lg P H w ∧ Row4 w lg cap H ∧ Five P ∧ ∀ i, i < 4 → (sizes (H i).ls : Int) ≤ q
theorem K4.up (h : K4 W pb n q lg cap w) : Up W w := by
  obtain ⟨K, P, H, h1, _⟩ := h
  exact h1.p.up
theorem K4.more (h : K4 W pb n q lg cap w) (u : Up w w') : K4 W pb n q lg cap w' := by
  obtain ⟨K, P, H, h1, h2, h3⟩ := h
  exact ⟨K, P, H, h1.more u, h2.of (u.block lg (h1.kb lg h1.kl)), h3⟩
theorem K4.acted (HA : ActsAny) (h : K4 W pb n q lg cap w) (q0 : 0 ≤ q) (q1 : q ≤ 1000) {i : Nat} (hi : i < 4) {kd who sz pk at' by' : Int} (i1 : I64 kd) (i3 : I64 sz) (i4 : I64 pk) (i5 : I64 at') (i6 : I64 by') : ∃ lv bv, w.rangeAt lg (i * 3) [.int .i64 (i : Int), lv, bv] ∧ ∀ w2, Up w w2 → Calls Try.prog 23 #[.pointer (some ⟨pb, 0, none⟩), .agg #[.int .i64 (i : Int), lv, bv], .agg #[.int .i64 kd, .int .i64 who, .int .i64 sz, .int .i64 pk, .int .i64 at', .int .i64 by'], .int .i64 q] w2 fun e w' => ∃ a1 n1 c1 a2 n2 c2, e = .returned (.tuple #[.agg #[.int .i64 (i : Int), .slice a1 n1 c1, .slice a2 n2 c2], .bool true]) ∧ w2.heap.size ≤ w'.heap.size ∧ (∀ b, w.heap.size ≤ b → b < w2.heap.size → w'.heap[b]? = w2.heap[b]?) ∧ ∀ g w3, w.heap.size ≤ g → (g < w2.heap.size ∨ w'.heap.size ≤ g) → Fr g w' w3 → Up W w3 ∧ w3.rangeAt lg (i * 3) [.int .i64 (i : Int), lv, bv] ∧ w3.there lg (i * 3) 3 ∧ K4 W pb n q lg cap (w3.setCells lg (i * 3) [.int .i64 (i : Int), .slice a1 n1 c1, .slice a2 n2 c2]) := by
  obtain ⟨K, P, H, h1, h2, hf, hs⟩ := h
  refine ⟨_, _, h2.range hi, fun w2 u2 => ?_⟩
  have hlg := h1.kb lg h1.kl
  have hO : ∀ j, j < 4 → ∀ b, (H j).O b → b < w.heap.size := fun j hj b hb => h1.kb b (h1.ok j hj b hb).1
  have hWs := h1.p.up.size
  have h3 := h1.moreK u2
  have hbl := u2.block lg hlg
  refine (HA _ (H i).O w2 W pb n i P (H i).lv (H i).bv (H i).hl (H i).ls q kd who sz pk at' by' i1 i3 i4 i5 i6 h3.p (h3.ht i hi) (fun b hb => ⟨(h3.ok i hi b hb).1, (h3.ok i hi b hb).2.1⟩) (h3.ar i hi) (h3.ky i hi) h3.cs q0 q1 (h3.opens hi)).mono ?_
  rintro e w' ⟨lv', bv', hl', P', K', O', L', rfl, d1, d2, d3, d4, d5, d6, l1, l2, c1, n1⟩
  obtain ⟨a1, a2⟩ := h3.acted hi d1 d2 d3 d4 d5 d6 l1 l2 c1
  obtain ⟨va, vn, vc, rfl⟩ := own_slice3 d2.lo
  obtain ⟨ua, un, uc, rfl⟩ := own_slice3 d2.bo
  have hq' : (sizes L' : Int) ≤ q := by
    rw [← nbSize_nbs, nbs_keys l2, n1]
    refine actF_le q0 ?_
    rw [← nbs_keys (h1.ky i hi), nbSize_nbs]
    exact hs i hi
  refine ⟨va, vn, vc, ua, un, uc, rfl, d6.size, fun b hb hb2 => d6.block b hb2 ⟨Or.inr ⟨hb, hb2⟩, fun e => ?_⟩, fun g w3 hg hg2 f => ?_⟩
  · have := hO i hi b e
    omega
  have hlw : lg < w'.heap.size := a1.kb lg a1.kl
  have hlg3 : w3.heap[lg]? = w.heap[lg]? := (f.block lg hlw (by omega)).trans (a2.trans hbl)
  have b2 : Row4 w3 lg cap H := h2.of hlg3
  have b1 : ∃ K H', Fp W K pb n q lg P' H' w3 ∧ H' = upd4 H i ⟨.slice va vn vc, .slice ua un uc, hl', L', O'⟩ := by
    rcases hg2 with hg2 | hg2
    · refine ⟨K', _, a1.frG f (d5 g (Or.inr ⟨hg, hg2⟩)) (by omega) (by omega) (fun j hj => ?_), rfl⟩
      by_cases e : j = i
      · subst e
        rw [upd4_same]
        intro e2
        rcases d4 g e2 with e3 | e3
        · have := hO j hj g e3
          omega
        · omega
      · rw [upd4_ne _ _ e]
        intro e2
        have := hO j hj g e2
        omega
    · refine ⟨K', _, a1.more ⟨f.os, f.output, f.size, fun b hb => f.block b hb (by omega)⟩, rfl⟩
  obtain ⟨K2, H2, b1, rfl⟩ := b1
  refine ⟨b1.p.up, b2.range hi, b2.there hi, K2, P', _, b1.frL (fr_setCells lg _ (i * 3) _), b2.set (x := ⟨.slice va vn vc, .slice ua un uc, hl', L', O'⟩) hi, hf.set hi l1, fun j hj => ?_⟩
  by_cases e : j = i
  · subst e
    rw [upd4_same]
    exact hq'
  · rw [upd4_ne _ _ e]
    exact hs j hj
/-- what the pool tells -/
structure Tells (w : World) (pb n : Nat) (q : Int) (lg cap : Nat) (F0 F1 : List Nat) (L : Nat → List Loan) : Prop where
  pm : (F0 ++ F1 ++ bufsTo L 4).Perm (List.range' 0 (2 * n))
  sz : ∀ i : Nat, i < 4 → (sizes (L i) : Int) ≤ q
  id : ∀ i : Nat, i < 4 → w.cell? ⟨lg, i * 3, none⟩ = some (.int .i64 (i : Int))
  lt : lg < w.heap.size
  f0 : ∀ w2, Up w w2 → Calls Try.prog 25 #[.pointer (some ⟨pb, 0, none⟩), .int .i64 0] w2 fun e w' => ∃ v, e = .returned v ∧ w'.ownsRow 0 3 1 v F0.length (nums F0) ∧ Up w2 w'
  f1 : ∀ w2, Up w w2 → Calls Try.prog 25 #[.pointer (some ⟨pb, 0, none⟩), .int .i64 1] w2 fun e w' => ∃ v, e = .returned v ∧ w'.ownsRow 0 3 1 v F1.length (nums F1) ∧ Up w2 w'
  ls : ∀ i : Nat, i < 4 → ∀ w2, Up w w2 → Calls Try.prog 17 #[.pointer (some ⟨pb, 0, none⟩), .int .i64 (i : Int)] w2 fun e w' => ∃ v, e = .returned v ∧ Ls w2 v (L i) w'
  us : ∀ i : Nat, i < 4 → ∀ w2, Up w w2 → Calls Try.prog 16 #[.pointer (some ⟨pb, 0, none⟩), .int .i64 (i : Int)] w2 fun e w' => e = .returned (.tuple #[.int .i64 (sizes (L i) : Nat), .int .i64 0]) ∧ Up w2 w'
theorem K4.tells (h : K4 W pb n q lg cap w) : ∃ F0 F1 L, Tells w pb n q lg cap F0 F1 L := by
  obtain ⟨K, P, H, h1, h2, hf, hs⟩ := h
  obtain ⟨F0, F1, e, hp⟩ := h1.told hf
  have hx0 : P.cls[0]? = some ⟨4, 0, n, F0⟩ := by rw [e]; rfl
  have hx1 : P.cls[1]? = some ⟨16, n, n, F1⟩ := by rw [e]; rfl
  refine ⟨F0, F1, fun i => (H i).ls, hp, hs, fun i hi => h2.range hi 0 _ rfl, h1.kb lg h1.kl, fun w2 u => ?_, fun w2 u => ?_, fun i hi w2 u => ?_, fun i hi w2 u => ?_⟩
  · obtain ⟨R, A, hp⟩ := (h1.more u).p.at'
    exact free_ok (c := 0) hp h1.p.ok hx0
  · obtain ⟨R, A, hp⟩ := (h1.more u).p.at'
    exact free_ok (c := 1) hp h1.p.ok hx1
  · obtain ⟨R, A, hp⟩ := (h1.more u).p.at'
    exact leases_ok hp h1.p.ok (h1.ar i hi)
  · exact (h1.more u).p.used (h1.ar i hi)
theorem K4.house {V : Value} (h : Hs W K pb n q V 4 4 w) (q0 : 0 ≤ q) : ∃ lg cap, V = .slice (some ⟨lg, 0, none⟩) 4 cap ∧ 4 ≤ cap ∧ cap ≤ 9223372036854775807 ∧ K4 W pb n q lg cap w := by
  obtain ⟨lg, cap, P, hV, c4, hc, h1, h2, h5⟩ := Fp.house5 h
  exact ⟨lg, cap, hV, c4, hc, K, P, _, h1, h2, h5, fun i hi => by simpa [sizes] using q0⟩
/-- the first k are closed -/
def Shut (W : World) (pb n lg cap k : Nat) (w : World) : Prop := ∃ K P H, Pb W K pb P w ∧ Cs n P ∧ P.ars.length = 5 ∧ (∀ i, i < 4 → k ≤ i → ∃ a, P.ars[i]? = some (some a)) ∧ (∀ i, i < k → P.ars[i]? = some none) ∧ P.ars[4]? = some none ∧ Row4 w lg cap H ∧ K lg ∧ lg < w.heap.size
theorem K4.shut (h : K4 W pb n q lg cap w) : Shut W pb n lg cap 0 w := by
  obtain ⟨K, P, H, h1, h2, hf, hs⟩ := h
  exact ⟨K, P, H, h1.p, h1.cs, hf.1, fun i hi _ => ⟨_, h1.ar i hi⟩, fun i hi => by omega, hf.2, h2, h1.kl, h1.kb lg h1.kl⟩
theorem Shut.up {k : Nat} (h : Shut W pb n lg cap k w) : Up W w := by
  obtain ⟨K, P, H, h1, _⟩ := h
  exact h1.up
theorem Shut.id {k i : Nat} (h : Shut W pb n lg cap k w) (hi : i < 4) : w.cell? ⟨lg, i * 3, none⟩ = some (.int .i64 (i : Int)) := by
  obtain ⟨K, P, H, h1, h2, h3, h4, h5, h6, h7, h8, h9⟩ := h
  exact h7.range hi 0 _ rfl
theorem Shut.close {k : Nat} (h : Shut W pb n lg cap k w) (hk : k < 4) : Calls Try.prog 13 #[.pointer (some ⟨pb, 0, none⟩), .int .i64 (k : Int)] w fun e w' => ∃ s : Int, e = .returned (.tuple #[.int .i64 s, .int .i64 0]) ∧ Shut W pb n lg cap (k + 1) w' := by
  obtain ⟨K, P, H, h1, h2, h3, h4, h5, h6, h7, h8, h9⟩ := h
  obtain ⟨a, ha⟩ := h4 k hk (Nat.le_refl _)
  refine (h1.close ha).mono fun e w' ⟨g1, g2, g3⟩ => ⟨_, g1, K, P.closed k a, H, g2, h2.relAll a.loans, ?_, fun i hi hki => ?_, fun i hi => ?_, ?_, h7.of (g3.block lg h9 h8), h8, Nat.lt_of_lt_of_le h9 g3.size⟩
  · show (P.ars.set k none).length = 5
    rw [List.length_set, h3]
  · show ∃ b, (P.ars.set k none)[i]? = some (some b)
    rw [List.getElem?_set, if_neg (by omega)]
    exact h4 i hi (by omega)
  · show (P.ars.set k none)[i]? = some none
    rw [List.getElem?_set]
    by_cases e : k = i
    · rw [if_pos e, if_pos (by omega)]
    · rw [if_neg e]
      exact h5 i (by omega)
  · show (P.ars.set k none)[4]? = some none
    rw [List.getElem?_set, if_neg (by omega)]
    exact h6
theorem sorted_eq {a b : List Nat} (h : a.Perm b) (ha : a.Pairwise (· ≤ ·)) (hb : b.Pairwise (· ≤ ·)) : a = b :=
  h.eq_of_pairwise (fun x y _ _ h1 h2 => by omega) ha hb
theorem Shut.free (h : Shut W pb n lg cap 4 w) {c : Nat} (hc : c < 2) : ∀ w2, Up w w2 → Calls Try.prog 25 #[.pointer (some ⟨pb, 0, none⟩), .int .i64 (c : Int)] w2 fun e w' => ∃ v, e = .returned v ∧ w'.ownsRow 0 3 1 v n (nums (List.range' (c * n) n)) ∧ Up w2 w' := by
  intro w2 u
  obtain ⟨K, P, H, h1, h2, h3, h4, h5, h6, h7, h8, h9⟩ := h
  obtain ⟨x, hx, x1, x2, x3⟩ := h2.at' c hc
  have hars : P.ars = [none, none, none, none, none] := by
    refine List.ext_getElem? (fun k => ?_)
    match k with
    | 0 => exact h5 0 (by decide)
    | 1 => exact h5 1 (by decide)
    | 2 => exact h5 2 (by decide)
    | 3 => exact h5 3 (by decide)
    | 4 => exact h6
    | k + 5 => rw [List.getElem?_eq_none (by omega), List.getElem?_eq_none (by simp)]
  have hp := h1.ok.pm c x hx
  rw [hars] at hp
  have hl : lent [none, none, none, none, none] c = [] := rfl
  rw [hl, List.append_nil, x3] at hp
  have hs : x.start = c * n := by
    rw [x2]
    have : c = 0 ∨ c = 1 := by omega
    rcases this with rfl | rfl <;> simp
  rw [hs] at hp
  have hf : x.free = List.range' (c * n) n := sorted_eq hp (h1.ok.so c x hx) (range'_sorted _ _)
  obtain ⟨R, A, hp⟩ := (h1.more u).at'
  have := free_ok (c := c) hp h1.ok hx
  rw [hf, List.length_range'] at this
  exact this
/-- a row laid behind one's own -/
theorem wpList_append_rows {P : Program} {w : World} {ops : Array Oper} {rest : List Oper} {o : Oper} {a : Act} {Q : Exit → Act → World → Prop} (hgd : o.guard = none) (s x : Operand) (t : TypeId)
    (ho : o.op = .call { callee := .builtin .append, args := #[s, x], argTypes := #[t, t] })
    (base : Nat) (e : TypeId) (i : TypeInfo) (z : Value) (size bytes : Nat) (ht : P.underlying t = some (.slice e)) (hi : P.info? e = some i) (hz : i.zero = some z)
    (hsize : i.size = size) (hby : i.bytes = bytes) (hzs : z.cells.size = size) (hsz : 0 < size)
    (v : Value) (n : Nat) (xs : List Value) (hs : a.eval s = v) (hown : w.ownsRow base e size v n xs)
    (vx : Value) (b2 m : Nat) (news : List Value) (hx : a.eval x = vx) (hox : w.ownsRow b2 e size vx m news) (h1 : ∀ u ∈ news, u.oneCell' = true)
    (h63 : n + m ≤ maxLen) (hbytes : (n + m) * bytes ≤ 140737488355328) (hbase : base ≤ w.heap.size)
    (h : ∀ v' w', w'.ownsRow base e size v' (n + m) (xs ++ news) → w.grownBy w' v.ownBlock → wpList P ops Q rest (a.put o.dst v') w') :
    wpList P ops Q (o :: rest) a w := by
  rcases own_cases hox with ⟨hv, hm, hn⟩ | ⟨g, cap, hv, hc, hm, hg, hgo⟩
  · subst hm hn hv
    refine wpList_append_own_none hgd s x t ho base e i size ht hi v n xs hs hown hx (h v w ?_ ⟨rfl, rfl, rfl, Nat.le_refl _, fun k _ _ => rfl⟩)
    rw [List.append_nil, Nat.add_zero]
    exact hown
  · subst hv
    refine wpList_append_own w hgd s x t ho base e i z size bytes ht hi hz hsize hby hzs hsz v n xs hs hown ⟨g, 0, none⟩ m cap news hx hox.1 (fun j u hj => hox.cells (g := g) rfl j u hj) h1 h63 hbytes hbase (fun v' w' h2 h3 _ => h v' w' h2 h3)
/-- numbers so far -/
structure Al (W : World) (v : Value) (A : List Nat) (w : World) : Prop where
  up : Up W w
  own : w.ownsRow W.heap.size 3 1 v A.length (nums A)
theorem Al.more {v : Value} {A : List Nat} (h : Al W v A w) (u : Up w w') : Al W v A w' := ⟨h.up.trans u, ownsRow_up h.own u⟩
theorem Al.grown {v v' : Value} {A B : List Nat} (h : Al W v A w) (g : w.grownBy w' v.ownBlock) (o : w'.ownsRow W.heap.size 3 1 v' (A.length + B.length) (nums A ++ nums B)) : Al W v' (A ++ B) w' := by
  refine ⟨⟨g.os.trans h.up.os, g.output.trans h.up.output, Nat.le_trans h.up.size g.size, fun b hb => (g.block b (Nat.lt_of_lt_of_le hb h.up.size) (fun e => ?_)).trans (h.up.block b hb)⟩, ?_⟩
  · rcases h.own.2 with ⟨hv, hn⟩ | ⟨g', cap', cur, hv, hb', _⟩
    · rw [hv] at e
      cases e
    · rw [hv] at e
      injection e with e
      have e : b = g' := e
      omega
  · have e : nums (A ++ B) = nums A ++ nums B := by simp [nums]
    rw [e, List.length_append]
    exact o
theorem Al.nil (W : World) : Al W (.slice none 0 0) [] W := ⟨Up.refl W, World.ownsRow_nil _ _ _ _⟩
/-- a row of leases beside a row of numbers that grows -/
theorem row_kept {v x : Value} {A : List Nat} {L : List Loan} {b2 : Nat} (h : Al W v A w) (hx : w.ownsRow b2 38 3 x L.length (leaseCells L)) (g : w.grownBy w' v.ownBlock) : w'.ownsRow b2 38 3 x L.length (leaseCells L) := by
  refine hx.kept g ?_
  cases hb : x.ownBlock with
  | none => exact Or.inl rfl
  | some b => exact Or.inr (fun e => own_ty hx h.own (by decide) hb e.symm)
/-- how often each number was met -/
structure Cn (w : World) (g n : Nat) (A : List Nat) : Prop where
  row : ∃ cs, w.heap[g]? = some (.cells cs 3 (0, 0)) ∧ cs.size = n ∧ ∀ k, k < n → cs[k]? = some (.int .i64 (A.count k : Int))
theorem Cn.cell {g : Nat} {A : List Nat} (h : Cn w g n A) {k : Nat} (hk : k < n) : w.cell? ⟨g, k, none⟩ = some (.int .i64 (A.count k : Int)) := by
  obtain ⟨cs, h1, h2, h3⟩ := h.row
  exact heap_cell h1 (h3 k hk)
theorem Cn.fz {g : Nat} {A : List Nat} (h : Cn w g n A) (k : Nat) : w.frozen? ⟨g, k, none⟩ = false := by
  obtain ⟨cs, h1, _⟩ := h.row
  exact heap_fz h1
theorem Cn.lt {g : Nat} {A : List Nat} (h : Cn w g n A) : g < w.heap.size := by
  obtain ⟨cs, h1, _⟩ := h.row
  exact heap_at h1
theorem Cn.set {g : Nat} {A : List Nat} (h : Cn w g n A) {k : Nat} (hk : k < n) : Cn (w.setCell ⟨g, k, none⟩ (.int .i64 ((A.count k : Int) + 1))) g n (A ++ [k]) := by
  obtain ⟨cs, h1, h2, h3⟩ := h.row
  refine ⟨cs.setIfInBounds k _, heap_setCell_same w g k _ _ _ h1, by simp [h2], fun j hj => ?_⟩
  rw [Array.getElem?_setIfInBounds, List.count_append, List.count_singleton]
  by_cases e : k = j
  · subst e
    rw [if_pos rfl, if_pos (by omega)]
    simp
  · rw [if_neg e, h3 j hj]
    simp [e]
theorem made_cn (w : World) (n : Nat) : Cn (w.alloc (.cells (madeCells #[.int .i64 0] n) 3)) w.heap.size n [] := by
  refine ⟨_, heap_alloc_new w _, by simp [madeCells], fun k hk => ?_⟩
  simp [madeCells, hk, Nat.mod_one]
/-- behind all of them -/
theorem count_one {A : List Nat} (h : A.Perm (List.range' 0 n)) {k : Nat} (hk : k < n) : A.count k = 1 := by
  rw [h.count_eq k]
  have key : ∀ n s k, s ≤ k → k < s + n → (List.range' s n).count k = 1 := by
    intro n
    induction n with
    | zero => intro s k h1 h2; omega
    | succ n ih =>
      intro s k h1 h2
      rw [List.range'_succ, List.count_cons]
      by_cases e : s = k
      · subst e
        have : (List.range' (s + 1) n).count s = 0 := List.count_eq_zero.2 (by simp; omega)
        simp [this]
      · rw [ih (s + 1) k (by omega) (by omega)]
        simp [e]
  exact key n 0 k (Nat.zero_le _) (by omega)
theorem met_lt {A : List Nat} (h : A.Perm (List.range' 0 n)) {j b : Nat} (hj : A[j]? = some b) : b < n := by
  have := h.mem_iff.1 (List.mem_of_getElem? hj)
  simp at this
  omega
theorem Shut.free0 (h : Shut W pb n lg cap 4 w) : ∀ w2, Up w w2 → Calls Try.prog 25 #[.pointer (some ⟨pb, 0, none⟩), .int .i64 0] w2 fun e w' => ∃ v, e = .returned v ∧ w'.ownsRow 0 3 1 v n (nums (List.range' 0 n)) ∧ Up w2 w' := fun w2 u => by
  have := h.free (c := 0) (by decide) w2 u
  rw [Nat.zero_mul] at this
  exact this
theorem Shut.free1 (h : Shut W pb n lg cap 4 w) : ∀ w2, Up w w2 → Calls Try.prog 25 #[.pointer (some ⟨pb, 0, none⟩), .int .i64 1] w2 fun e w' => ∃ v, e = .returned v ∧ w'.ownsRow 0 3 1 v n (nums (List.range' n n)) ∧ Up w2 w' := fun w2 u => by
  have := h.free (c := 1) (by decide) w2 u
  rw [Nat.one_mul] at this
  exact this
/-- a row of numbers, as it is read -/
theorem row_read {v : Value} {A : List Nat} {b2 : Nat} (h : w.ownsRow b2 3 1 v A.length (nums A)) (h0 : 0 < A.length) : ∃ g vc, v = .slice (some ⟨g, 0, none⟩) A.length vc ∧ A.length ≤ vc ∧ vc ≤ 9223372036854775807 ∧ g < w.heap.size ∧ b2 ≤ g ∧ ∀ (j b : Nat), A[j]? = some b → w.cell? ⟨g, j, none⟩ = some (.int .i64 (b : Int)) := by
  rcases own_cases h with ⟨_, hn, _⟩ | ⟨g, cap, hv, hc, hm, hg, hgo⟩
  · omega
  · refine ⟨g, cap, hv, hc, by unfold maxLen at hm; omega, hg, (h.lt g hgo).1, fun j b hj => ?_⟩
    subst hv
    have hjl := (List.getElem?_eq_some_iff.1 hj).1
    have := own_cell h j (by omega)
    rw [Nat.zero_add] at this
    rw [this]
    exact nums_at hj
theorem lease_read {va : Option Addr} {vn vc b2 : Nat} {L : List Loan} (h : w.ownsRow b2 38 3 (.slice va vn vc) L.length (leaseCells L)) : vn = L.length ∧ (vn ≤ vc ∧ vc ≤ 9223372036854775807) ∧ ∀ (j : Nat) (l : Loan), L[j]? = some l → ∃ g, va = some ⟨g, 0, none⟩ ∧ w.cell? ⟨g, j * 3, none⟩ = some (.int .i64 (l.buf : Int)) := by
  rcases own_cases h with ⟨hv, hn, _⟩ | ⟨g, cap, hv, hc, hm, hg, hgo⟩
  · injection hv with e1 e2 e3
    refine ⟨by omega, ⟨by omega, by omega⟩, fun j l hj => ?_⟩
    have := (List.getElem?_eq_some_iff.1 hj).1
    omega
  · have hv2 := hv
    injection hv with e1 e2 e3
    subst e1 e2 e3
    refine ⟨rfl, ⟨hc, by unfold maxLen at hm; omega⟩, fun j l hj => ⟨g, rfl, ?_⟩⟩
    have hjl := (List.getElem?_eq_some_iff.1 hj).1
    have := own_cell h (j * 3) (by omega)
    rw [Nat.zero_add] at this
    rw [this]
    have := leaseCells_at L j 0 l hj (by decide)
    rw [Nat.add_zero] at this
    rw [this]
    rfl
/-- the row of counts may be written -/
theorem Al.frG {v : Value} {A : List Nat} {g : Nat} (h : Al W v A w) (f : Fr g w w') (hg : W.heap.size ≤ g) (hn : v.ownBlock ≠ some g) : Al W v A w' :=
  ⟨Fr.up h.up hg f, ownsRow_block h.own (fun b hb => f.block b (h.own.lt b hb).2 (fun e => hn (e ▸ hb)))⟩
end Go.Proofs.Yteijdcidemajfaa
