import Derived.Test.YthdfcbckipgehaaMtA
/- Arena: two pools side by side. -/
namespace Go.Proofs.Ythdfcbckipgehaa
open Go.RowKit
set_option linter.unusedVariables false
variable {K K' K1 K2 O : Nat → Prop} {w w' W : World} {pb n : Nat} {P P' : Pl} {q : Int}
/-- a pool stands where nothing of its own is changed -/
theorem Pb.keep (h : Pb W K pb P w) (f : FK K2 w w') (hk : ∀ b, b < w.heap.size → ¬ K b → K2 b) (ko : ∀ b, b < W.heap.size → K2 b) : Pb W K pb P w' := by
  obtain ⟨R, A, h1⟩ := h.at'
  refine ⟨⟨R, A, h1.same f.size (fun b r hr => f.block b (h1.lt b r hr) (hk b (h1.lt b r hr) (fun e => ?_))) h1.kn (fun b hb => Nat.lt_of_lt_of_le (h1.kb b hb) f.size)⟩, h.ok, h.up.fk f ko, h.ko⟩
  rw [h1.kn b e] at hr
  cases hr
/-- new blocks are let in -/
def Kn (K : Nat → Prop) (w w' : World) : Nat → Prop := fun b => K b ∨ (w.heap.size ≤ b ∧ b < w'.heap.size)
/-- one side: the pool, the four and their list's block -/
structure Sd where
  K : Nat → Prop
  pb : Nat
  lg : Nat
  P : Pl
  H : Nat → One4
/-- what one side is to the other -/
structure Ap (x y : Sd) (w : World) : Prop where
  kk : ∀ b, b < w.heap.size → ¬ x.K b → y.K b
  kl : y.K x.lg
  nl : y.lg ≠ x.lg
  ok : ∀ i, i < 4 → ∀ b, (x.H i).O b → y.K b ∧ b ≠ y.lg
  di : ∀ i j, i < 4 → j < 4 → ∀ b, (x.H i).O b → ¬ (y.H j).O b
def Sd.at' (s : Sd) (W : World) (n : Nat) (q : Int) (w : World) : Prop := Fp W s.K s.pb n q s.lg s.P s.H w
/-- both -/
structure Tw (W : World) (n : Nat) (q : Int) (x y : Sd) (w : World) : Prop where
  px : x.at' W n q w
  py : y.at' W n q w
  a : Ap x y w
  b : Ap y x w
variable {x y : Sd}
theorem Tw.swap (h : Tw W n q x y w) : Tw W n q y x w := ⟨h.py, h.px, h.b, h.a⟩
theorem Tw.up (h : Tw W n q x y w) : Up W w := h.px.p.up
theorem Tw.more (h : Tw W n q x y w) (u : Up w w') : Tw W n q { x with K := Kn x.K w w' } { y with K := Kn y.K w w' } w' := by
  refine ⟨h.px.moreK u, h.py.moreK u, ⟨fun b hb hn => ?_, Or.inl h.a.kl, h.a.nl, fun i hi b hb => ⟨Or.inl (h.a.ok i hi b hb).1, (h.a.ok i hi b hb).2⟩, h.a.di⟩, ⟨fun b hb hn => ?_, Or.inl h.b.kl, h.b.nl, fun i hi b hb => ⟨Or.inl (h.b.ok i hi b hb).1, (h.b.ok i hi b hb).2⟩, h.b.di⟩⟩
  · by_cases e : b < w.heap.size
    · exact Or.inl (h.a.kk b e (fun k => hn (Or.inl k)))
    · exact (Or.inr ⟨by omega, hb⟩ : y.K b ∨ (w.heap.size ≤ b ∧ b < w'.heap.size))
  · by_cases e : b < w.heap.size
    · exact Or.inl (h.b.kk b e (fun k => hn (Or.inl k)))
    · exact (Or.inr ⟨by omega, hb⟩ : x.K b ∨ (w.heap.size ≤ b ∧ b < w'.heap.size))
/-- the first of the two acts -/
theorem Tw.acted {i : Nat} {lv' bv' : Value} {hl' L' : List Loan} {K' O' : Nat → Prop} (h : Tw W n q x y w) (hi : i < 4) (d1 : Pb W K' x.pb P' w') (d2 : Ht O' w' lv' bv' hl' hl') (d3 : ∀ b, O' b → K' b ∧ W.heap.size ≤ b) (d4 : ∀ b, O' b → (x.H i).O b ∨ w.heap.size ≤ b) (d5 : ∀ b, x.K b → K' b) (d6 : FK (fun b => x.K b ∧ ¬ (x.H i).O b) w w') (l1 : P'.ars = x.P.ars.set i (some ⟨q, L'⟩)) (l2 : keys L' = keys hl') (c1 : Cs n P') :
    Tw W n q ⟨K', x.pb, x.lg, P', upd4 x.H i ⟨lv', bv', hl', L', O'⟩⟩ { y with K := Kn y.K w w' } w' ∧ w'.heap[x.lg]? = w.heap[x.lg]? ∧ w'.heap[y.lg]? = w.heap[y.lg]? := by
  have hx : Fp W x.K x.pb n q x.lg x.P x.H w := h.px
  have hy : Fp W y.K y.pb n q y.lg y.P y.H w := h.py
  obtain ⟨a1, a2⟩ := hx.acted hi d1 d2 d3 d4 d5 d6 l1 l2 c1
  have hyl := hy.kb y.lg hy.kl
  have hsz := d6.size
  have hOx : ∀ j, j < 4 → ∀ b, (x.H j).O b → b < w.heap.size := fun j hj b hb => hx.kb b (hx.ok j hj b hb).1
  have hOy : ∀ j, j < 4 → ∀ b, (y.H j).O b → b < w.heap.size := fun j hj b hb => hy.kb b (hy.ok j hj b hb).1
  have ky : ∀ b, b < w.heap.size → ¬ y.K b → x.K b ∧ ¬ (x.H i).O b := fun b hb hn => ⟨h.b.kk b hb hn, fun e => hn (h.a.ok i hi b e).1⟩
  have kW : ∀ b, b < W.heap.size → x.K b ∧ ¬ (x.H i).O b := fun b hb => ⟨hx.p.ko b hb, fun e => by have := (hx.ok i hi b e).2.1; omega⟩
  have nO : ∀ j, j < 4 → ∀ b, (upd4 x.H i ⟨lv', bv', hl', L', O'⟩ j).O b → (x.H j).O b ∨ w.heap.size ≤ b := fun j hj b hb => by
    by_cases e : j = i
    · subst e
      rw [upd4_same] at hb
      exact d4 b hb
    · rw [upd4_ne _ _ e] at hb
      exact Or.inl hb
  have lO : ∀ j, j < 4 → ∀ b, (upd4 x.H i ⟨lv', bv', hl', L', O'⟩ j).O b → b < w'.heap.size := fun j hj b hb => a1.kb b (a1.ok j hj b hb).1
  have y2 : Fp W (Kn y.K w w') y.pb n q y.lg y.P y.H w' := by
    have p1 : Pb W y.K y.pb y.P w' := hy.p.keep d6 ky kW
    obtain ⟨R, A, r1⟩ := p1.at'
    obtain ⟨R0, A0, r0⟩ := hy.p.at'
    have p2 : Pb W (Kn y.K w w') y.pb y.P w' := by
      obtain ⟨R, A, r0⟩ := hy.p.at'
      refine ⟨⟨R, A, r0.same hsz (fun b r hr => d6.block b (r0.lt b r hr) (ky b (r0.lt b r hr) (fun e => ?_))) (fun b hb => ?_) (fun b hb => ?_)⟩, hy.p.ok, p1.up, fun b hb => Or.inl (hy.p.ko b hb)⟩
      · rw [r0.kn b e] at hr
        cases hr
      · rcases hb with hb | hb
        · exact r0.kn b hb
        · cases hr : R b with
          | none => rfl
          | some r =>
            have := r0.lt b r hr
            omega
      · rcases hb with hb | hb
        · have := r0.kb b hb
          omega
        · exact hb.2
    exact ⟨p2, hy.cs, hy.ar, hy.ky, fun j hj => (hy.ht j hj).same (fun b hb ho => d6.block b hb ⟨(h.b.ok j hj b ho).1, fun e => h.a.di i j hi hj b e ho⟩), fun j hj b hb => ⟨Or.inl (hy.ok j hj b hb).1, (hy.ok j hj b hb).2⟩, hy.di, Or.inl hy.kl, hy.wl⟩
  refine ⟨⟨a1, y2, ⟨fun b hb hn => ?_, Or.inl h.a.kl, h.a.nl, fun j hj b hb => ?_, fun j k hj hk b hb hc => ?_⟩, ⟨fun b hb hn => ?_, d5 _ h.b.kl, h.b.nl, fun j hj b hb => ⟨d5 b (h.b.ok j hj b hb).1, (h.b.ok j hj b hb).2⟩, fun j k hj hk b hb hc => ?_⟩⟩, a2, d6.block y.lg hyl ⟨h.b.kl, fun e => (h.a.ok i hi _ e).2 rfl⟩⟩
  · by_cases e : b < w.heap.size
    · exact Or.inl (h.a.kk b e (fun k => hn (d5 b k)))
    · exact (Or.inr ⟨by omega, hb⟩ : y.K b ∨ (w.heap.size ≤ b ∧ b < w'.heap.size))
  · rcases nO j hj b hb with e | e
    · exact ⟨Or.inl (h.a.ok j hj b e).1, (h.a.ok j hj b e).2⟩
    · exact ⟨(Or.inr ⟨e, lO j hj b hb⟩ : y.K b ∨ (w.heap.size ≤ b ∧ b < w'.heap.size)), fun e2 => by have e2 : b = y.lg := e2; omega⟩
  · rcases nO j hj b hb with e | e
    · exact h.a.di j k hj hk b e hc
    · have := hOy k hk b hc
      omega
  · by_cases e : b < w.heap.size
    · exact d5 b (h.b.kk b e (fun k => hn (Or.inl k)))
    · exact (hn (Or.inr ⟨by omega, hb⟩ : y.K b ∨ (w.heap.size ≤ b ∧ b < w'.heap.size))).elim
  · rcases nO k hk b hc with e | e
    · exact h.b.di j k hj hk b hb e
    · have := hOy j hj b hb
      omega
end Go.Proofs.Ythdfcbckipgehaa
/- Arena: two pools in which the same is done. -/
namespace Go.Proofs.Ythdfcbckipgehaa
open Go.RowKit
set_option linter.unusedVariables false
variable {K K' K1 K2 O : Nat → Prop} {w w' W : World} {pb n : Nat} {P P' : Pl} {q : Int} {x y : Sd}
/-- how many of a class -/
def cnt (c : Nat) (l : List NB) : Nat := (l.filter (fun x => x.1 == c)).length
theorem lentOf_len (c : Nat) (a : Arn) : (lentOf c (some a)).length = cnt c (nbs a.loans) := by
  unfold lentOf cnt nbs
  dsimp only
  rw [List.length_map, List.filter_map, List.length_map]
  rfl
theorem nbs_keys {a b : List Loan} (h : keys a = keys b) : nbs a = nbs b := by
  have : (keys a).map (fun x => ((x.2.1, x.2.2.1, x.2.2.2) : NB)) = (keys b).map (fun x => ((x.2.1, x.2.2.1, x.2.2.2) : NB)) := by rw [h]
  unfold keys at this
  rw [List.map_map, List.map_map] at this
  exact this
/-- five arenas, and the last is not open -/
def Five (P : Pl) : Prop := P.ars.length = 5 ∧ P.ars[4]? = some none
theorem Five.set {i : Nat} {a : Option Arn} (h : Five P) (hi : i < 4) (e : P'.ars = P.ars.set i a) : Five P' := by
  obtain ⟨h1, h2⟩ := h
  refine ⟨by rw [e, List.length_set, h1], ?_⟩
  rw [e, List.getElem?_set, if_neg (by omega), h2]
theorem Fp.count {lg : Nat} {H : Nat → One4} (h : Fp W K pb n q lg P H w) (f : Five P) (c : Nat) : P.freeN c = if c < 2 then n - (cnt c (nbs (H 0).hl) + cnt c (nbs (H 1).hl) + cnt c (nbs (H 2).hl) + cnt c (nbs (H 3).hl)) else 0 := by
  obtain ⟨F0, F1, e⟩ := h.cs
  obtain ⟨f1, f2⟩ := f
  have a0 := h.ar 0 (by decide)
  have a1 := h.ar 1 (by decide)
  have a2 := h.ar 2 (by decide)
  have a3 := h.ar 3 (by decide)
  have hars : P.ars = [some ⟨q, (H 0).ls⟩, some ⟨q, (H 1).ls⟩, some ⟨q, (H 2).ls⟩, some ⟨q, (H 3).ls⟩, none] := by
    refine List.ext_getElem? (fun k => ?_)
    match k with
    | 0 => exact a0
    | 1 => exact a1
    | 2 => exact a2
    | 3 => exact a3
    | 4 => exact f2
    | k + 5 => rw [List.getElem?_eq_none (by omega), List.getElem?_eq_none (by simp)]
  have hl : ∀ c, (lent P.ars c).length = cnt c (nbs (H 0).hl) + cnt c (nbs (H 1).hl) + cnt c (nbs (H 2).hl) + cnt c (nbs (H 3).hl) := fun c => by
    unfold lent
    rw [hars]
    simp only [List.flatMap_cons, List.flatMap_nil, List.length_append, lentOf_len, List.length_nil]
    rw [nbs_keys (h.ky 0 (by decide)), nbs_keys (h.ky 1 (by decide)), nbs_keys (h.ky 2 (by decide)), nbs_keys (h.ky 3 (by decide))]
    show _ + (_ + (_ + (_ + ((lentOf c none).length + 0)))) = _
    have : (lentOf c none).length = 0 := rfl
    omega
  have key : ∀ x, P.cls[c]? = some x → x.many = n → x.free.length = n - (cnt c (nbs (H 0).hl) + cnt c (nbs (H 1).hl) + cnt c (nbs (H 2).hl) + cnt c (nbs (H 3).hl)) := fun x hx hm => by
    have := (h.p.ok.pm c x hx).length_eq
    rw [List.length_append, List.length_range', hl, hm] at this
    omega
  unfold Pl.freeN
  match c with
  | 0 =>
    have hx : P.cls[0]? = some ⟨4, 0, n, F0⟩ := by rw [e]; rfl
    rw [hx, if_pos (by decide)]
    exact key _ hx rfl
  | 1 =>
    have hx : P.cls[1]? = some ⟨16, n, n, F1⟩ := by rw [e]; rfl
    rw [hx, if_pos (by decide)]
    exact key _ hx rfl
  | c + 2 =>
    have hx : P.cls[c + 2]? = none := by rw [e]; exact List.getElem?_eq_none (by simp)
    rw [hx, if_neg (by omega)]
/-- the pick of a take changes nothing -/
theorem actF_pick {kd sz pk pk2 at' by' : Int} {fl : Nat → Nat} {ls : List NB} (h : pickI kd 8 < 2 ∨ pk2 = pk) : actF kd sz pk2 at' by' q fl ls = actF kd sz pk at' by' q fl ls := by
  rcases h with h | rfl
  · unfold actF
    have e : pickI kd 8 ≤ 1 := by omega
    simp only [if_pos e]
  · rfl
/-- both pools, and what their lists' rows say -/
structure Mi (W : World) (n : Nat) (q : Int) (x y : Sd) (c1 c2 : Nat) (X Y : Nat → One4) (w : World) : Prop where
  t : Tw W n q x y w
  r1 : Row4 w x.lg c1 X
  r2 : Row4 w y.lg c2 Y
  f1 : Five x.P
  f2 : Five y.P
variable {c1 c2 : Nat} {X Y : Nat → One4}
theorem Mi.swap (h : Mi W n q x y c1 c2 X Y w) : Mi W n q y x c2 c1 Y X w := ⟨h.t.swap, h.r2, h.r1, h.f2, h.f1⟩
theorem Mi.up (h : Mi W n q x y c1 c2 X Y w) : Up W w := h.t.up
theorem Mi.lgs (h : Mi W n q x y c1 c2 X Y w) : x.lg < w.heap.size ∧ y.lg < w.heap.size := ⟨Fp.kb h.t.px _ h.t.px.kl, Fp.kb h.t.py _ h.t.py.kl⟩
theorem Mi.more (h : Mi W n q x y c1 c2 X Y w) (u : Up w w') : Mi W n q { x with K := Kn x.K w w' } { y with K := Kn y.K w w' } c1 c2 X Y w' :=
  ⟨h.t.more u, h.r1.of (u.block _ h.lgs.1), h.r2.of (u.block _ h.lgs.2), h.f1, h.f2⟩
/-- a new block may be written -/
theorem Fp.frN {lg g : Nat} {H : Nat → One4} (h : Fp W K pb n q lg P H w) (f : Fr g w w') (hk : K g) (hg : W.heap.size ≤ g) (hl : lg ≠ g) (ho : ∀ i, i < 4 → ¬ (H i).O g) : Fp W (Kn K w w') pb n q lg P H w' := by
  have h1 := h.frG f hk hg hl ho
  refine ⟨?_, h1.cs, h1.ar, h1.ky, h1.ht, fun i hi b hb => ⟨Or.inl (h1.ok i hi b hb).1, (h1.ok i hi b hb).2⟩, h1.di, Or.inl h1.kl, h1.wl⟩
  obtain ⟨R, A, r⟩ := h.p.at'
  refine ⟨⟨R, A, r.same f.size (fun b s hr => f.block b (r.lt b s hr) (fun e => ?_)) (fun b hb => ?_) (fun b hb => ?_)⟩, h.p.ok, h1.p.up, fun b hb => Or.inl (h.p.ko b hb)⟩
  · rw [e, r.kn g hk] at hr
    cases hr
  · rcases hb with hb | hb
    · exact r.kn b hb
    · cases hr : R b with
      | none => rfl
      | some s =>
        have := r.lt b s hr
        omega
  · rcases hb with hb | hb
    · have := r.kb b hb
      have := f.size
      omega
    · exact hb.2
theorem Mi.frN {g : Nat} (h : Mi W n q x y c1 c2 X Y w) (f : Fr g w w') (hx : x.K g) (hy : y.K g) (hg : W.heap.size ≤ g) (hl : x.lg ≠ g ∧ y.lg ≠ g) (ho : ∀ i, i < 4 → ¬ (x.H i).O g ∧ ¬ (y.H i).O g) : Mi W n q { x with K := Kn x.K w w' } { y with K := Kn y.K w w' } c1 c2 X Y w' := by
  have t := h.t
  refine ⟨⟨Fp.frN t.px f hx hg hl.1 (fun i hi => (ho i hi).1), Fp.frN t.py f hy hg hl.2 (fun i hi => (ho i hi).2), ⟨fun b hb hn => ?_, Or.inl t.a.kl, t.a.nl, fun i hi b hb => ⟨Or.inl (t.a.ok i hi b hb).1, (t.a.ok i hi b hb).2⟩, t.a.di⟩, ⟨fun b hb hn => ?_, Or.inl t.b.kl, t.b.nl, fun i hi b hb => ⟨Or.inl (t.b.ok i hi b hb).1, (t.b.ok i hi b hb).2⟩, t.b.di⟩⟩, h.r1.of (f.block _ h.lgs.1 hl.1), h.r2.of (f.block _ h.lgs.2 hl.2), h.f1, h.f2⟩
  · by_cases e : b < w.heap.size
    · exact Or.inl (t.a.kk b e (fun k => hn (Or.inl k)))
    · exact (Or.inr ⟨by omega, hb⟩ : y.K b ∨ (w.heap.size ≤ b ∧ b < w'.heap.size))
  · by_cases e : b < w.heap.size
    · exact Or.inl (t.b.kk b e (fun k => hn (Or.inl k)))
    · exact (Or.inr ⟨by omega, hb⟩ : x.K b ∨ (w.heap.size ≤ b ∧ b < w'.heap.size))
/-- the first pool's act -/
theorem Mi.act (HA : ActsAny) (h : Mi W n q x y c1 c2 X Y w) (q0 : 0 ≤ q) (q1 : q ≤ 1000) {i : Nat} (hi : i < 4) {kd who sz pk at' by' : Int} (i1 : I64 kd) (i3 : I64 sz) (i4 : I64 pk) (i5 : I64 at') (i6 : I64 by') {w2 : World} (u2 : Up w w2) : Calls Try.prog 23 #[.pointer (some ⟨x.pb, 0, none⟩), .agg #[.int .i64 (i : Int), (x.H i).lv, (x.H i).bv], .agg #[.int .i64 kd, .int .i64 who, .int .i64 sz, .int .i64 pk, .int .i64 at', .int .i64 by'], .int .i64 q] w2 fun e w' => ∃ a1 n1 d1 a2 n2 d2 hl' L' O', e = .returned (.tuple #[.agg #[.int .i64 (i : Int), .slice a1 n1 d1, .slice a2 n2 d2], .bool true]) ∧ w2.heap.size ≤ w'.heap.size ∧ (∀ b, w.heap.size ≤ b → b < w2.heap.size → w'.heap[b]? = w2.heap[b]?) ∧ nbs hl' = actF kd sz pk at' by' q x.P.freeN (nbs (x.H i).hl) ∧ (∀ b, b < w.heap.size → x.K b → ¬ (x.H i).O b → w'.heap[b]? = w2.heap[b]?) ∧ ∀ g w3, w.heap.size ≤ g → (g < w2.heap.size ∨ w'.heap.size ≤ g) → Fr g w' w3 → ∃ K' K2 P', Mi W n q ⟨K', x.pb, x.lg, P', upd4 x.H i ⟨.slice a1 n1 d1, .slice a2 n2 d2, hl', L', O'⟩⟩ { y with K := K2 } c1 c2 X Y w3 ∧ (g < w3.heap.size → K2 g) ∧ (∀ b, w.heap.size ≤ b → b < w2.heap.size → K2 b) := by
  have h2 := h.more u2
  have t2 := h2.t
  have px : Fp W (Kn x.K w w2) x.pb n q x.lg x.P x.H w2 := t2.px
  refine (HA _ (x.H i).O w2 W x.pb n i x.P (x.H i).lv (x.H i).bv (x.H i).hl (x.H i).ls q kd who sz pk at' by' i1 i3 i4 i5 i6 px.p (px.ht i hi) (fun b hb => ⟨(px.ok i hi b hb).1, (px.ok i hi b hb).2.1⟩) (px.ar i hi) (px.ky i hi) px.cs q0 q1 (px.opens hi)).mono ?_
  rintro e w' ⟨lv', bv', hl', P', K', O', L', rfl, d1, d2, d3, d4, d5, d6, l1, l2, z1, n1⟩
  obtain ⟨t3, s1, s2⟩ := t2.acted hi d1 d2 d3 d4 d5 d6 l1 l2 z1
  obtain ⟨va, vn, vc, rfl⟩ := own_slice3 d2.lo
  obtain ⟨ua, un, uc, rfl⟩ := own_slice3 d2.bo
  have hlg := h.lgs
  have hWs := h.up.size
  have hOx : ∀ j, j < 4 → ∀ b, (x.H j).O b → b < w.heap.size := fun j hj b hb => Fp.kb h.t.px b (h.t.px.ok j hj b hb).1
  have hOy : ∀ j, j < 4 → ∀ b, (y.H j).O b → b < w.heap.size := fun j hj b hb => Fp.kb h.t.py b (h.t.py.ok j hj b hb).1
  have hs2 := u2.size
  have hs3 := d6.size
  have m3 : Mi W n q ⟨K', x.pb, x.lg, P', upd4 x.H i ⟨.slice va vn vc, .slice ua un uc, hl', L', O'⟩⟩ { y with K := Kn (Kn y.K w w2) w2 w' } c1 c2 X Y w' := ⟨t3, h2.r1.of s1, h2.r2.of s2, Five.set (P := x.P) h.f1 hi l1, h.f2⟩
  refine ⟨va, vn, vc, ua, un, uc, hl', L', O', rfl, d6.size, fun b hb hb2 => d6.block b hb2 ⟨Or.inr ⟨hb, hb2⟩, fun e => ?_⟩, n1, fun b hb hk ho => d6.block b (by omega) ⟨Or.inl hk, ho⟩, fun g w3 hg hg2 f => ?_⟩
  · have := hOx i hi b e
    omega
  rcases hg2 with hg2 | hg2
  · refine ⟨_, _, _, m3.frN f (d5 g (Or.inr ⟨hg, hg2⟩)) (Or.inl (Or.inr ⟨hg, hg2⟩)) (by omega) ⟨?_, ?_⟩ (fun j hj => ⟨fun e => ?_, fun e => ?_⟩), fun _ => Or.inl (Or.inl (Or.inr ⟨hg, hg2⟩)), fun b h1 h2 => Or.inl (Or.inl (Or.inr ⟨h1, h2⟩))⟩
    · show x.lg ≠ g
      omega
    · show y.lg ≠ g
      omega
    · by_cases ej : j = i
      · subst ej
        have e : O' g := by
          have e : (upd4 x.H j ⟨.slice va vn vc, .slice ua un uc, hl', L', O'⟩ j).O g := e
          rw [upd4_same] at e
          exact e
        rcases d4 g e with e3 | e3
        · have := hOx j hj g e3
          omega
        · omega
      · have e : (upd4 x.H i ⟨.slice va vn vc, .slice ua un uc, hl', L', O'⟩ j).O g := e
        rw [upd4_ne _ _ ej] at e
        have := hOx j hj g e
        omega
    · have := hOy j hj g e
      omega
  · exact ⟨_, _, _, m3.more ⟨f.os, f.output, f.size, fun b hb => f.block b hb (by omega)⟩, fun hz => Or.inr ⟨hg2, hz⟩, fun b h1 h2 => Or.inl (Or.inl (Or.inr ⟨h1, h2⟩))⟩
end Go.Proofs.Ythdfcbckipgehaa
/- Arena: two pools in which the same is done: what the law reads. -/
namespace Go.Proofs.Ythdfcbckipgehaa
open Go.RowKit
set_option linter.unusedVariables false
variable {K K' K1 K2 O : Nat → Prop} {w w' W : World} {pb n i : Nat} {P P' : Pl} {q : Int} {x y : Sd} {hl L : List Loan}
/-- what one holds, as it is read -/
structure Hv (w : World) (pb i : Nat) (va : Option Addr) (vn vc : Nat) (ua : Option Addr) (un uc : Nat) (hl : List Loan) : Prop where
  len : vn = hl.length ∧ vn ≤ vc ∧ vc ≤ 9223372036854775807
  few : hl.length ≤ 4096
  sz : ∀ l ∈ hl, l.size ≤ 65536
  size : ∀ w', Up w w' → Calls Try.prog 24 #[.agg #[.int .i64 (i : Int), .slice va vn vc, .slice ua un uc]] w' fun e w2 => e = .returned (.int .i64 (sizes hl : Nat)) ∧ Up w' w2
  load : ∀ (w' : World) (k : Nat) (l : Loan), Up w w' → hl[k]? = some l → Calls Try.prog 20 #[.pointer (some ⟨pb, 0, none⟩), .int .i64 (i : Int), .int .i64 (l.buf : Int), .int .i64 0, .int .i64 (l.size : Int)] w' fun e w2 => ∃ g cap, e = .returned (.tuple #[.slice (some ⟨g, 0, none⟩) l.size cap, .int .i64 0]) ∧ Lst w2 g l.size cap l.f ∧ Up w' w2
  cell : ∀ (k : Nat) (l : Loan), hl[k]? = some l → ∃ lg, va = some ⟨lg, 0, none⟩ ∧ ∀ w', Up w w' → w'.cell? ⟨lg, k * 3, none⟩ = some (.int .i64 (l.buf : Int)) ∧ w'.cell? ⟨lg, k * 3 + 2, none⟩ = some (.int .i64 (l.size : Int))
theorem hv_of {va ua : Option Addr} {vn vc un uc : Nat} (hp : Pb W K pb P w) (hh : Ht O w (.slice va vn vc) (.slice ua un uc) hl hl) (ha : P.ars[i]? = some (some ⟨q, L⟩)) (hk : keys L = keys hl) (hc : Cs n P) : Hv w pb i va vn vc ua un uc hl := by
  have hil : i ≤ 64 := by
    have := (List.getElem?_eq_some_iff.1 ha).1
    have := hp.ok.na
    omega
  have hl4 : hl.length ≤ 4096 := by rw [← keys_len hk]; exact hp.ok.loans ha
  have HSz : ∀ l ∈ hl, l.size ≤ 65536 := keys_le hk (fun l hl' => (hp.ok.size ha hl').2)
  obtain ⟨hvn, hvc1, hvc2⟩ : vn = hl.length ∧ vn ≤ vc ∧ vc ≤ 9223372036854775807 := by
    rcases own_cases hh.lo with ⟨hv, hn0, _⟩ | ⟨g, cap, hv, hc1, hm, _⟩
    · injection hv with _ e2 e3
      exact ⟨by omega, by omega, by omega⟩
    · injection hv with _ e2 e3
      unfold maxLen at hm
      exact ⟨e2, by omega, by omega⟩
  subst hvn
  have hsz : sizes hl ≤ 65536 * 4096 := by
    have := sizes_le (ls := hl) HSz
    have h2 : 65536 * hl.length ≤ 65536 * 4096 := Nat.mul_le_mul_left _ hl4
    omega
  refine ⟨⟨rfl, hvc1, hvc2⟩, hl4, HSz, fun w' u => size_any (ownsRow_up hh.lo u) HSz (by omega), fun w' k l u hl' => ?_, fun k l hl' => ?_⟩
  · obtain ⟨m, hm, hmk⟩ := keys_at hk.symm hl'
    have hsp := span_at hp.ok hc ha hm
    have hms := hp.ok.size ha (List.mem_of_getElem? hm)
    obtain ⟨x, hx, _⟩ := hp.ok.ln i _ m ha (List.mem_of_getElem? hm)
    have hbr := buf_range hp.ok ha hm hx
    have hmy := hp.ok.my _ x hx
    injection hmk with e1 hmk
    injection hmk with e2 hmk
    injection hmk with e3 e4
    rw [e1, e3] at hsp
    refine ((hp.more u).load (b := (l.buf : Int)) (n := (l.size : Int)) ⟨by omega, by omega⟩ ⟨by omega, by omega⟩ ⟨by decide, by decide⟩ ⟨by omega, by omega⟩ hsp).mono fun e w2 ⟨g, cap, g1, _, g2, g3⟩ => ⟨g, cap, g1, ?_, g3⟩
    rw [← e4]
    exact ⟨g2.lt, g2.nc, g2.cm, fun j hj => by have := g2.cell j hj; rwa [Nat.zero_add] at this⟩
  · have hkl := (List.getElem?_eq_some_iff.1 hl').1
    rcases own_cases hh.lo with ⟨_, hn0, _⟩ | ⟨lg, c1, hv1, _⟩
    · omega
    have hv2 := hv1
    injection hv1 with hv1 _ _
    refine ⟨lg, hv1, fun w' u => ?_⟩
    have lo := ownsRow_up hh.lo u
    rw [hv2] at lo
    have lc : ∀ r, r < 3 → w'.cell? ⟨lg, k * 3 + r, none⟩ = l.lease[r]? := fun r hr => by
      have := own_cell lo (k * 3 + r) (by omega)
      rw [Nat.zero_add] at this
      rw [this]
      exact leaseCells_at hl k r l hl' hr
    exact ⟨lc 0 (by decide), lc 2 (by decide)⟩
/-- the beginning: five arenas, the last of them not open -/
theorem Fp.house5 {V : Value} (h : Hs W K pb n q V 4 4 w) : ∃ lg cap P, V = .slice (some ⟨lg, 0, none⟩) 4 cap ∧ 4 ≤ cap ∧ cap ≤ 9223372036854775807 ∧ Fp W K pb n q lg P (fun _ => ⟨.slice none 0 0, .slice none 0 0, [], [], fun _ => False⟩) w ∧ Row4 w lg cap (fun _ => ⟨.slice none 0 0, .slice none 0 0, [], [], fun _ => False⟩) ∧ Five P := by
  obtain ⟨P, h1, h2, h3⟩ := h.at'
  obtain ⟨lg, cap, _, hv, hc, _, p2⟩ := Fp.house (n := n) ⟨⟨P, h1, h2, h3⟩, h.own, h.kv⟩
  have c4 : 4 ≤ cap := by
    obtain ⟨_, _, _, h, _⟩ := p2
    exact h
  have ow := h.own
  rw [hv] at ow
  obtain ⟨cur, q1, q2, q3, q4, q5, q6, q7⟩ := own_open ow
  refine ⟨lg, cap, P, hv, c4, hc, ⟨h1, ?_, fun i hi => ?_, fun i hi => rfl, fun i hi => Ht.nil _ w, fun i hi b hb => hb.elim, fun i j hi hj hij b hb => hb.elim, h.kv lg (by rw [hv]; rfl), q2⟩, p2, ?_⟩
  · exact ⟨List.range' 0 n, List.range' n n, h3.trans (by simp [mkCls])⟩
  · rw [h2]
    have : i = 0 ∨ i = 1 ∨ i = 2 ∨ i = 3 := by omega
    rcases this with rfl | rfl | rfl | rfl <;> rfl
  · unfold Five
    rw [h2]
    exact ⟨rfl, rfl⟩
def H0 : Nat → One4 := fun _ => ⟨.slice none 0 0, .slice none 0 0, [], [], fun _ => False⟩
theorem two_houses {w1 : World} {pb1 pb2 lg1 lg2 c1 c2 : Nat} {P1 P2 : Pl} (h1 : Fp W K1 pb1 n q lg1 P1 H0 w1) (r1 : Row4 w1 lg1 c1 H0) (f1 : Five P1) (h2 : Fp w1 K2 pb2 n q lg2 P2 H0 w) (r2 : Row4 w lg2 c2 H0) (f2 : Five P2) : Mi W n q ⟨Kn K1 w1 w, pb1, lg1, P1, H0⟩ ⟨K2, pb2, lg2, P2, H0⟩ c1 c2 H0 H0 w := by
  have u : Up w1 w := h2.p.up
  have l1 := h1.kb lg1 h1.kl
  have l2 := h2.kb lg2 h2.kl
  have s1 := h1.p.up.size
  have y2 : Fp W K2 pb2 n q lg2 P2 H0 w := ⟨⟨h2.p.at', h2.p.ok, h1.p.up.trans u, fun b hb => h2.p.ko b (by omega)⟩, h2.cs, h2.ar, h2.ky, h2.ht, fun i hi b hb => hb.elim, h2.di, h2.kl, Nat.le_trans s1 h2.wl⟩
  have wl := h2.wl
  refine ⟨⟨h1.moreK u, y2, ⟨fun b hb hn => ?_, h2.p.ko lg1 l1, ?_, fun i hi b hb => hb.elim, fun i j hi hj b hb => hb.elim⟩, ⟨fun b hb hn => ?_, Or.inr ⟨h2.wl, l2⟩, ?_, fun i hi b hb => hb.elim, fun i j hi hj b hb => hb.elim⟩⟩, r1.of (u.block lg1 l1), r2, f1, f2⟩
  · refine h2.p.ko b ?_
    by_cases e : b < w1.heap.size
    · exact e
    · exact (hn (Or.inr ⟨by omega, hb⟩ : K1 b ∨ (w1.heap.size ≤ b ∧ b < w.heap.size))).elim
  · show lg2 ≠ lg1
    omega
  · by_cases e : b < w1.heap.size
    · exact (hn (h2.p.ko b e)).elim
    · exact (Or.inr ⟨by omega, hb⟩ : K1 b ∨ (w1.heap.size ≤ b ∧ b < w.heap.size))
  · show lg1 ≠ lg2
    omega
end Go.Proofs.Ythdfcbckipgehaa
/- Arena: two pools in which the same is done: a round. -/
namespace Go.Proofs.Ythdfcbckipgehaa
open Go.RowKit
set_option linter.unusedVariables false
variable {K K' K1 K2 O : Nat → Prop} {w w' W : World} {pb n i : Nat} {P P' : Pl} {q : Int} {x y : Sd} {c1 c2 : Nat} {X Y : Nat → One4}
theorem size_setCells (b : Nat) : ∀ (vs : List Value) (o : Nat) (w : World), (w.setCells b o vs).heap.size = w.heap.size
  | [], _, _ => rfl
  | v :: r, o, w => (size_setCells b r (o + 1) (w.setCell ⟨b, o, none⟩ v)).trans (World.size_setCell _ _ _)
theorem Mi.there1 (h : Mi W n q x y c1 c2 X Y w) (hi : i < 4) : w.there x.lg (i * 3) 3 := h.r1.there hi
theorem Mi.set1 (h : Mi W n q x y c1 c2 X Y w) (hi : i < 4) (v : One4) : Mi W n q x y c1 c2 (upd4 X i v) Y (w.setCells x.lg (i * 3) [.int .i64 (i : Int), v.lv, v.bv]) := by
  have t := h.t
  have f := fr_setCells x.lg [.int .i64 (i : Int), v.lv, v.bv] (i * 3) w
  have hx : Fp W x.K x.pb n q x.lg x.P x.H w := t.px
  have hy : Fp W y.K y.pb n q y.lg y.P y.H w := t.py
  have hsz : (w.setCells x.lg (i * 3) [.int .i64 (i : Int), v.lv, v.bv]).heap.size = w.heap.size := size_setCells _ _ _ _
  refine ⟨⟨hx.frL f, hy.frG f t.a.kl hx.wl t.a.nl (fun j hj e => (t.b.ok j hj _ e).2 rfl), ⟨fun b hb hn => t.a.kk b (by rw [hsz] at hb; exact hb) hn, t.a.kl, t.a.nl, t.a.ok, t.a.di⟩, ⟨fun b hb hn => t.b.kk b (by rw [hsz] at hb; exact hb) hn, t.b.kl, t.b.nl, t.b.ok, t.b.di⟩⟩, h.r1.set hi, h.r2.of (f.block _ h.lgs.2 t.a.nl), h.f1, h.f2⟩
def Nb (X Y : Nat → One4) : Prop := ∀ j, j < 4 → nbs (X j).hl = nbs (Y j).hl
theorem Nb.upd {u v : One4} (h : Nb X Y) (e : nbs u.hl = nbs v.hl) : Nb (upd4 X i u) (upd4 Y i v) := fun j hj => by
  by_cases e2 : j = i
  · subst e2
    rw [upd4_same, upd4_same]
    exact e
  · rw [upd4_ne _ _ e2, upd4_ne _ _ e2]
    exact h j hj
theorem Mi.free (h : Mi W n q x y c1 c2 X Y w) (e : Nb x.H y.H) : x.P.freeN = y.P.freeN := funext fun c => by
  rw [Fp.count h.t.px h.f1 c, Fp.count h.t.py h.f2 c, e 0 (by decide), e 1 (by decide), e 2 (by decide), e 3 (by decide)]
/-- between two rounds -/
def T4 (W : World) (q : Int) (pb1 pb2 lg1 lg2 c1 c2 : Nat) (w : World) : Prop := ∃ K1 K2 P1 P2 X Y, Mi W 5 q ⟨K1, pb1, lg1, P1, X⟩ ⟨K2, pb2, lg2, P2, Y⟩ c1 c2 X Y w ∧ Nb X Y
variable {pb1 pb2 lg1 lg2 : Nat}
theorem T4.up (h : T4 W q pb1 pb2 lg1 lg2 c1 c2 w) : Up W w := by
  obtain ⟨K1, K2, P1, P2, X, Y, h, _⟩ := h
  exact h.up
theorem T4.more (h : T4 W q pb1 pb2 lg1 lg2 c1 c2 w) (u : Up w w') : T4 W q pb1 pb2 lg1 lg2 c1 c2 w' := by
  obtain ⟨K1, K2, P1, P2, X, Y, h, e⟩ := h
  exact ⟨_, _, P1, P2, X, Y, h.more u, e⟩
theorem T4.lgs (h : T4 W q pb1 pb2 lg1 lg2 c1 c2 w) : lg1 < w.heap.size ∧ lg2 < w.heap.size := by
  obtain ⟨K1, K2, P1, P2, X, Y, h, _⟩ := h
  exact h.lgs
/-- six things of two slices -/
structure S2 where
  a : Option Addr
  n : Nat
  d : Nat
  a2 : Option Addr
  n2 : Nat
  d2 : Nat
abbrev S2.one (s : S2) (hl L : List Loan) (O : Nat → Prop) : One4 := ⟨.slice s.a s.n s.d, .slice s.a2 s.n2 s.d2, hl, L, O⟩
/-- behind the first's act -/
def T5 (W : World) (q : Int) (pb1 pb2 lg1 lg2 c1 c2 i : Nat) (s : S2) (lv bv lv2 bv2 : Value) (kd sz pk at' by' : Int) (E : Nat → Prop) (w : World) : Prop := ∃ K1 K2 P1 P2 X Y hl' L' O', (∀ b, E b → b < w.heap.size ∧ K2 b ∧ ∀ j, j < 4 → ¬ (Y j).O b) ∧ Mi W 5 q ⟨K1, pb1, lg1, P1, upd4 X i (s.one hl' L' O')⟩ ⟨K2, pb2, lg2, P2, Y⟩ c1 c2 X Y w ∧ Nb X Y ∧ ((X i).lv = lv ∧ (X i).bv = bv) ∧ ((Y i).lv = lv2 ∧ (Y i).bv = bv2) ∧ nbs hl' = actF kd sz pk at' by' q P2.freeN (nbs (Y i).hl)
/-- behind both acts; r1, r2: the lists are written -/
def T6 (W : World) (q : Int) (pb1 pb2 lg1 lg2 c1 c2 i : Nat) (s t : S2) (hl hg : List Loan) (lv2 bv2 : Value) (r1 r2 : Bool) (w : World) : Prop := ∃ K1 K2 P1 P2 X Y L1 O1 L2 O2, Mi W 5 q ⟨K1, pb1, lg1, P1, upd4 X i (s.one hl L1 O1)⟩ ⟨K2, pb2, lg2, P2, upd4 Y i (t.one hg L2 O2)⟩ c1 c2 (if r1 then upd4 X i (s.one hl L1 O1) else X) (if r2 then upd4 Y i (t.one hg L2 O2) else Y) w ∧ Nb X Y ∧ ((Y i).lv = lv2 ∧ (Y i).bv = bv2)
variable {s t : S2} {lv bv lv2 bv2 : Value} {kd who sz pk pk2 at' by' : Int} {hl hg : List Loan} {r1 r2 : Bool} {gb : Nat → Prop}
theorem T5.rows (h : T5 W q pb1 pb2 lg1 lg2 c1 c2 i s lv bv lv2 bv2 kd sz pk at' by' gb w) (hi : i < 4) : Up W w ∧ w.rangeAt lg1 (i * 3) [.int .i64 (i : Int), lv, bv] ∧ w.rangeAt lg2 (i * 3) [.int .i64 (i : Int), lv2, bv2] := by
  obtain ⟨K1, K2, P1, P2, X, Y, hl', L', O', _, h, e, ⟨rfl, rfl⟩, ⟨rfl, rfl⟩, n1⟩ := h
  exact ⟨h.up, h.r1.range hi, h.r2.range hi⟩
theorem T5.more (h : T5 W q pb1 pb2 lg1 lg2 c1 c2 i s lv bv lv2 bv2 kd sz pk at' by' gb w) (u : Up w w') : T5 W q pb1 pb2 lg1 lg2 c1 c2 i s lv bv lv2 bv2 kd sz pk at' by' gb w' := by
  obtain ⟨K1, K2, P1, P2, X, Y, hl', L', O', g1, h, e⟩ := h
  exact ⟨_, _, P1, P2, X, Y, hl', L', O', fun b hb => ⟨Nat.lt_of_lt_of_le (g1 b hb).1 u.size, Or.inl (g1 b hb).2.1, (g1 b hb).2.2⟩, h.more u, e⟩
theorem T5.weak {E2 : Nat → Prop} (h : T5 W q pb1 pb2 lg1 lg2 c1 c2 i s lv bv lv2 bv2 kd sz pk at' by' gb w) (hE : ∀ b, E2 b → gb b) : T5 W q pb1 pb2 lg1 lg2 c1 c2 i s lv bv lv2 bv2 kd sz pk at' by' E2 w := by
  obtain ⟨K1, K2, P1, P2, X, Y, hl', L', O', g1, h⟩ := h
  exact ⟨K1, K2, P1, P2, X, Y, hl', L', O', fun b hb => g1 b (hE b hb), h⟩
theorem range_heap {b : Nat} {cs : List Value} {t : TypeId} (h : w.heap[b]? = some (.cells cs.toArray t (0, 0))) : w.rangeAt b 0 cs := fun j v hj => by
  rw [Nat.zero_add]
  exact heap_cell h (by simpa using hj)
theorem T6.up (h : T6 W q pb1 pb2 lg1 lg2 c1 c2 i s t hl hg lv2 bv2 r1 r2 w) : Up W w := by
  obtain ⟨K1, K2, P1, P2, X, Y, L1, O1, L2, O2, h, e⟩ := h
  exact h.up
theorem T6.more (h : T6 W q pb1 pb2 lg1 lg2 c1 c2 i s t hl hg lv2 bv2 r1 r2 w) (u : Up w w') : T6 W q pb1 pb2 lg1 lg2 c1 c2 i s t hl hg lv2 bv2 r1 r2 w' := by
  obtain ⟨K1, K2, P1, P2, X, Y, L1, O1, L2, O2, h, e⟩ := h
  exact ⟨_, _, P1, P2, X, Y, L1, O1, L2, O2, h.more u, e⟩
theorem T6.row2 (h : T6 W q pb1 pb2 lg1 lg2 c1 c2 i s t hl hg lv2 bv2 false false w) (hi : i < 4) : w.rangeAt lg2 (i * 3) [.int .i64 (i : Int), lv2, bv2] := by
  obtain ⟨K1, K2, P1, P2, X, Y, L1, O1, L2, O2, h, e, rfl, rfl⟩ := h
  exact h.r2.range hi
theorem T6.hv (h : T6 W q pb1 pb2 lg1 lg2 c1 c2 i s t hl hg lv2 bv2 r1 r2 w) (hi : i < 4) : Hv w pb1 i s.a s.n s.d s.a2 s.n2 s.d2 hl ∧ Hv w pb2 i t.a t.n t.d t.a2 t.n2 t.d2 hg := by
  obtain ⟨K1, K2, P1, P2, X, Y, L1, O1, L2, O2, h, e⟩ := h
  have px : Fp W K1 pb1 5 q lg1 P1 (upd4 X i (s.one hl L1 O1)) w := h.t.px
  have py : Fp W K2 pb2 5 q lg2 P2 (upd4 Y i (t.one hg L2 O2)) w := h.t.py
  have a1 := px.ht i hi
  have a2 := px.ar i hi
  have a3 := px.ky i hi
  have b1 := py.ht i hi
  have b2 := py.ar i hi
  have b3 := py.ky i hi
  rw [upd4_same] at a1 a2 a3 b1 b2 b3
  exact ⟨hv_of px.p a1 a2 a3 px.cs, hv_of py.p b1 b2 b3 py.cs⟩
theorem T6.store1 (h : T6 W q pb1 pb2 lg1 lg2 c1 c2 i s t hl hg lv2 bv2 false false w) (hi : i < 4) : w.there lg1 (i * 3) 3 ∧ T6 W q pb1 pb2 lg1 lg2 c1 c2 i s t hl hg lv2 bv2 true false (w.setCells lg1 (i * 3) [.int .i64 (i : Int), .slice s.a s.n s.d, .slice s.a2 s.n2 s.d2]) := by
  obtain ⟨K1, K2, P1, P2, X, Y, L1, O1, L2, O2, h, e⟩ := h
  exact ⟨h.there1 hi, K1, K2, P1, P2, X, Y, L1, O1, L2, O2, h.set1 hi (s.one hl L1 O1), e⟩
theorem T6.store2 (h : T6 W q pb1 pb2 lg1 lg2 c1 c2 i s t hl hg lv2 bv2 true false w) (hi : i < 4) : w.there lg2 (i * 3) 3 ∧ T6 W q pb1 pb2 lg1 lg2 c1 c2 i s t hl hg lv2 bv2 true true (w.setCells lg2 (i * 3) [.int .i64 (i : Int), .slice t.a t.n t.d, .slice t.a2 t.n2 t.d2]) := by
  obtain ⟨K1, K2, P1, P2, X, Y, L1, O1, L2, O2, h, e⟩ := h
  exact ⟨h.swap.there1 hi, K1, K2, P1, P2, X, Y, L1, O1, L2, O2, (h.swap.set1 hi (t.one hg L2 O2)).swap, e⟩
theorem T6.t4 (h : T6 W q pb1 pb2 lg1 lg2 c1 c2 i s t hl hg lv2 bv2 true true w) (e : nbs hl = nbs hg) : T4 W q pb1 pb2 lg1 lg2 c1 c2 w := by
  obtain ⟨K1, K2, P1, P2, X, Y, L1, O1, L2, O2, h, e1, _⟩ := h
  exact ⟨K1, K2, P1, P2, _, _, h, e1.upd e⟩
/-- the first's act -/
theorem T4.go (HA : ActsAny) (h : T4 W q pb1 pb2 lg1 lg2 c1 c2 w) (q0 : 0 ≤ q) (q1 : q ≤ 1000) (hi : i < 4) (i1 : I64 kd) (i3 : I64 sz) (i4 : I64 pk) (i5 : I64 at') (i6 : I64 by') : ∃ lv bv lv2 bv2, (w.rangeAt lg1 (i * 3) [.int .i64 (i : Int), lv, bv] ∧ w.rangeAt lg2 (i * 3) [.int .i64 (i : Int), lv2, bv2]) ∧ ∀ w2, Up w w2 → Calls Try.prog 23 #[.pointer (some ⟨pb1, 0, none⟩), .agg #[.int .i64 (i : Int), lv, bv], .agg #[.int .i64 kd, .int .i64 who, .int .i64 sz, .int .i64 pk, .int .i64 at', .int .i64 by'], .int .i64 q] w2 fun e w' => ∃ s : S2, e = .returned (.tuple #[.agg #[.int .i64 (i : Int), .slice s.a s.n s.d, .slice s.a2 s.n2 s.d2], .bool true]) ∧ w2.heap.size ≤ w'.heap.size ∧ (∀ b, w.heap.size ≤ b → b < w2.heap.size → w'.heap[b]? = w2.heap[b]?) ∧ ∀ g w3, w.heap.size ≤ g → (g < w2.heap.size ∨ w'.heap.size ≤ g) → Fr g w' w3 → g < w3.heap.size → T5 W q pb1 pb2 lg1 lg2 c1 c2 i s lv bv lv2 bv2 kd sz pk at' by' (fun b => b = g ∨ (w.heap.size ≤ b ∧ b < w2.heap.size)) w3 := by
  obtain ⟨K1, K2, P1, P2, X, Y, h, e⟩ := h
  refine ⟨_, _, _, _, ⟨h.r1.range hi, h.r2.range hi⟩, fun w2 u2 => ?_⟩
  have hfr : P1.freeN = P2.freeN := h.free e
  refine (h.act HA q0 q1 hi i1 i3 i4 i5 i6 u2).mono ?_
  rintro ed w' ⟨a1, n1, d1, a2, n2, d2, hl', L', O', rfl, z1, z2, z3, z5, z4⟩
  refine ⟨⟨a1, n1, d1, a2, n2, d2⟩, rfl, z1, z2, fun g w3 hg hg2 f hgs => ?_⟩
  obtain ⟨K3, K4, P3, m, mg, mg2⟩ := z4 g w3 hg hg2 f
  have hOy : ∀ b, w.heap.size ≤ b → ∀ j, j < 4 → ¬ (Y j).O b := fun b hb j hj e => by
    have := Fp.kb h.t.py b (h.t.py.ok j hj b e).1
    omega
  have hE : ∀ b, (b = g ∨ (w.heap.size ≤ b ∧ b < w2.heap.size)) → b < w3.heap.size ∧ K4 b ∧ ∀ j, j < 4 → ¬ (Y j).O b := fun b hb => by
    rcases hb with rfl | ⟨h1, h2⟩
    · exact ⟨hgs, mg hgs, hOy _ hg⟩
    · have := f.size
      exact ⟨by omega, mg2 b h1 h2, hOy _ h1⟩
  refine ⟨K3, K4, P3, P2, X, Y, hl', L', O', hE, m, e, ⟨rfl, rfl⟩, ⟨rfl, rfl⟩, ?_⟩
  rw [← hfr, ← e i hi]
  exact z3
/-- the other's act -/
theorem T5.go (HA : ActsAny) (h : T5 W q pb1 pb2 lg1 lg2 c1 c2 i s lv bv lv2 bv2 kd sz pk at' by' gb w) (q0 : 0 ≤ q) (q1 : q ≤ 1000) (hi : i < 4) (i1 : I64 kd) (i3 : I64 sz) (i4 : I64 pk2) (i5 : I64 at') (i6 : I64 by') (hpk : pickI kd 8 < 2 ∨ pk2 = pk) {w2 : World} (u2 : Up w w2) : Calls Try.prog 23 #[.pointer (some ⟨pb2, 0, none⟩), .agg #[.int .i64 (i : Int), lv2, bv2], .agg #[.int .i64 kd, .int .i64 who, .int .i64 sz, .int .i64 pk2, .int .i64 at', .int .i64 by'], .int .i64 q] w2 fun e w' => ∃ t hl hg, e = .returned (.tuple #[.agg #[.int .i64 (i : Int), .slice (S2.a t) t.n t.d, .slice t.a2 t.n2 t.d2], .bool true]) ∧ nbs hl = nbs hg ∧ w2.heap.size ≤ w'.heap.size ∧ (∀ b, gb b → w'.heap[b]? = w2.heap[b]?) ∧ (∀ b, w.heap.size ≤ b → b < w2.heap.size → w'.heap[b]? = w2.heap[b]?) ∧ ∀ g w3, w.heap.size ≤ g → (g < w2.heap.size ∨ w'.heap.size ≤ g) → Fr g w' w3 → T6 W q pb1 pb2 lg1 lg2 c1 c2 i s t hl hg lv2 bv2 false false w3 := by
  obtain ⟨K1, K2, P1, P2, X, Y, hl', L', O', g1, h, e, ⟨rfl, rfl⟩, ⟨rfl, rfl⟩, n0⟩ := h
  refine (h.swap.act HA q0 q1 hi i1 i3 i4 i5 i6 u2).mono ?_
  rintro ed w' ⟨a1, n1, d1, a2, n2, d2, hg', L2, O2, rfl, z1, z2, z3, z5, z4⟩
  refine ⟨⟨a1, n1, d1, a2, n2, d2⟩, hl', hg', rfl, ?_, z1, fun b hb => z5 b (g1 b hb).1 (g1 b hb).2.1 ((g1 b hb).2.2 i hi), z2, fun g w3 hg hg2 f => ?_⟩
  · rw [n0, z3]
    exact (actF_pick hpk).symm
  obtain ⟨K3, K4, P3, m, _, _⟩ := z4 g w3 hg hg2 f
  exact ⟨K4, K3, P1, P3, X, Y, L', O', L2, O2, m.swap, e, rfl, rfl⟩
end Go.Proofs.Ythdfcbckipgehaa
