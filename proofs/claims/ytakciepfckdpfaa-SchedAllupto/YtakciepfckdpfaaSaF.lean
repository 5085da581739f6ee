/- Sched: the steps of the script, by what they do to the book. -/
import Derived.Test.YtakciepfckdpfaaSaE
namespace Go.Proofs.Ytakciepfckdpfaa
open Go.RowKit
set_option linter.unusedVariables false
set_option linter.unusedSimpArgs false
variable {w w' W W0 : World} {ρ : Nat → Nat} {wb : Nat} {P : Pos} {ps : List (Nat × Nat)} {S : List Sd} {F : List (Nat × List Int)} {A : List Value} {G : List (List Int)} {Lv : List Value} {Lm : List Int}
/-- blocks of the role 30 are as they were -/
structure K3 (ρ ρ' : Nat → Nat) (w w' : World) : Prop where
  size : w.heap.size ≤ w'.heap.size
  ro : ∀ b, b < w.heap.size → ρ' b = ρ b
  bl : ∀ b, b < w.heap.size → ρ b = 30 → w'.heap[b]? = w.heap[b]?
theorem K3.of {r r2 : Nat} (c : Ch ρ r w w') (h : r ≠ 30) : K3 ρ (ext ρ w.heap.size r2) w w' := ⟨c.size, fun b hb => ext_lt hb, fun b hb e => c.block b hb (by rw [e]; exact fun x => h x.symm)⟩
theorem K3.trans {a b c : World} {p q s : Nat → Nat} (h : K3 p q a b) (k : K3 q s b c) : K3 p s a c :=
  ⟨Nat.le_trans h.size k.size, fun x hx => (k.ro x (Nat.lt_of_lt_of_le hx h.size)).trans (h.ro x hx), fun x hx e => (k.bl x (Nat.lt_of_lt_of_le hx h.size) (by rw [h.ro x hx]; exact e)).trans (h.bl x hx e)⟩
theorem K3.cell {b k : Nat} {ρ' : Nat → Nat} {v : Value} (h : K3 ρ ρ' w w') (hr : ρ b = 30) (hc : w.cell? ⟨b, k, none⟩ = some v) : w'.cell? ⟨b, k, none⟩ = some v := by
  rw [← hc]
  unfold World.cell?
  rw [h.bl b (World.block_lt_of_cell? _ _ hc) hr]
/-- one call of a thing, and the same of the document's -/
theorem Bk.two {fx fy j : Nat} {ax ay : Array Value} {E : Ending} {p : Nat × Nat} {Sj S' : Sd} (h : Bk 22 W0 ρ w wb P ps S S F A G Lv Lm) (hp : ps[j]? = some p) (hS : S[j]? = some Sj)
    (hx : SdAt (Kr ρ (1000 + 2 * j) w) w p.1 Sj → Calls Try.prog fx ax w fun e w1 => e = E ∧ SdAt (Kr ρ (1000 + 2 * j) w) w1 p.1 S' ∧ FK (Kr ρ (1000 + 2 * j) w) w w1)
    (hy : ∀ (w1 : World) (K : Nat → Prop), RfAt K w1 p.2 Sj → Calls Try.prog fy ay w1 fun e w3 => e = E ∧ RfAt K w3 p.2 S' ∧ FK K w1 w3) :
    Calls Try.prog fx ax w fun e w1 => e = E ∧ (∃ ρ1, K3 ρ ρ1 w w1) ∧ ∀ w2, w2 = w1 → Calls Try.prog fy ay w2 fun e w3 => e = E ∧ ∃ ρ3, K3 ρ ρ3 w w3 ∧ Bk 22 W0 ρ3 w3 wb P ps (S.set j S') (S.set j S') F A G Lv Lm := by
  refine (hx (h.pX j p Sj hp hS)).mono fun e w1 ⟨q1, q2, q3⟩ => ?_
  have b1 := h.callX hp q3 q2
  have k1 : K3 ρ (ext ρ w.heap.size (1000 + 2 * j)) w w1 := K3.of (Ch.ofFK q3) (by omega)
  refine ⟨q1, ⟨_, k1⟩, fun w2 e2 => ?_⟩
  subst e2
  refine (hy w2 _ (b1.pY j p Sj hp hS)).mono fun e w3 ⟨r1, r2, r3⟩ => ?_
  exact ⟨r1, _, k1.trans (K3.of (Ch.ofFK r3) (by omega)), b1.callY hp r3 r2⟩
/-- a new thing's role -/
theorem Bk.upN {r : Nat} {Sx Sy : List Sd} (h : Bk 22 W0 ρ w wb P ps Sx Sy F A G Lv Lm) (u : Up w w') (hr2 : 1000 + 2 * ps.length ≤ r) : Bk 22 W0 (ext ρ w.heap.size r) w' wb P ps Sx Sy F A G Lv Lm :=
  ⟨h.up.trans u, fun b hb => by rw [ext_lt (Nat.lt_of_lt_of_le hb h.up.size)]; exact h.old b hb, by rw [ext_lt h.wlt]; exact h.wro, (u.block _ h.wlt).trans h.blk, h.lR.up u, h.fR.up u, h.aR.up u, h.sR.up u, h.mR.up u,
    fun j p S hp hS => (h.pX j p S hp hS).other (Ch.ofUp (r := 0) u) (by omega) (by have := (List.getElem?_eq_some_iff.1 hp).1; omega), fun j p S hp hS => (h.pY j p S hp hS).other (Ch.ofUp (r := 0) u) (by omega) (by have := (List.getElem?_eq_some_iff.1 hp).1; omega), h.xl, h.yl, h.ph, fun e he => (h.fI e he).up u, h.fd, h.fl, fun i v e hv he => (h.aI i v e hv he).up u,
    fun i v m hv hm => by obtain ⟨n, h1, h2⟩ := h.sI i v m hv hm; exact ⟨n, h1, h2.up u⟩⟩
/-- one thing more -/
theorem Bk.put {w1 w2 w3 w4 : World} {xb yb : Nat} {S0 : Sd} {v' : Value} (h : Bk 22 W0 ρ w wb P ps S S F A G Lv Lm) (u1 : Up w w1) (hx : SdAt (fun b => b < w.heap.size) w1 xb S0) (u2 : Up w1 w2) (hy : RfAt (fun b => b < w1.heap.size) w2 yb S0) (u3 : Up w2 w3)
    (g : w3.grownBy w4 P.lV.ownBlock) (o : w4.ownsRow 0 77 2 v' (ps.length + 1) (ptrs ps ++ [.pointer (some ⟨xb, 0, none⟩), .pointer (some ⟨yb, 0, none⟩)])) (a : v'.ownBlock = P.lV.ownBlock ∨ v'.ownBlock = some w3.heap.size) :
    (∃ ρ' P', Bk 22 W0 ρ' (w4.setCell ⟨wb, 0, none⟩ v') wb P' (ps ++ [(xb, yb)]) (S ++ [S0]) (S ++ [S0]) F A G Lv Lm) ∧ w4.cell? ⟨wb, 0, none⟩ = some P.lV ∧ w4.frozen? ⟨wb, 0, none⟩ = false := by
  have b1 := h.upN (r := 1000 + 2 * ps.length) u1 (Nat.le_refl _)
  have hx1 : SdAt (Kr (ext ρ w.heap.size (1000 + 2 * ps.length)) (1000 + 2 * ps.length) w1) w1 xb S0 := hx.less' fun b hb => by
    rcases Nat.lt_or_ge b w.heap.size with h9 | h9
    · exact h9
    · exact absurd (ext_ge h9) hb.2
  have b2 := b1.upN (r := 1001 + 2 * ps.length) u2 (by omega)
  have hx2 := hx1.other (r' := 1001 + 2 * ps.length) (Ch.ofUp (r := 0) u2) (by omega) (by omega)
  have hy2 : RfAt (Kr (ext (ext ρ w.heap.size (1000 + 2 * ps.length)) w1.heap.size (1001 + 2 * ps.length)) (1001 + 2 * ps.length) w2) w2 yb S0 := by
    obtain ⟨lv, sv, z⟩ := hy
    have hk : ∀ b, Kr (ext (ext ρ w.heap.size (1000 + 2 * ps.length)) w1.heap.size (1001 + 2 * ps.length)) (1001 + 2 * ps.length) w2 b → b < w1.heap.size := fun b hb => by
      rcases Nat.lt_or_ge b w1.heap.size with h9 | h9
      · exact h9
      · exact absurd (ext_ge h9) hb.2
    exact ⟨lv, sv, fun b hb => z.kn b (hk b hb), fun b hb => z.kb b (hk b hb), z.blk, z.row, z.slo, z.a1, z.a2, z.a3, z.len, z.gd⟩
  obtain ⟨r1, c1⟩ := b2.lR.grow u3 g o a
  have hh := b2.hole c1 (by omega) (by omega)
  have hx3 := hx2.other (r' := 11) c1 (by omega) (by omega)
  have hy3 := hy2.other (r' := 11) c1 (by omega) (by omega)
  obtain ⟨b4, c2⟩ := hh.fill (o := 0) (v := v') (P' := { P with lV := v' }) (ps' := ps ++ [(xb, yb)]) (Sx' := S ++ [S0]) (Sy' := S ++ [S0]) rfl (by rw [List.length_append, ptrs_app]; exact r1) (hh.fR (by omega)) (hh.aR (by omega)) (hh.sR (by omega)) (hh.mR (by omega)) (fun i q T hq hT => by
    rw [List.getElem?_append] at hq hT
    by_cases hi : i < ps.length
    · rw [if_pos hi] at hq
      rw [if_pos (by rw [h.xl]; exact hi)] at hT
      exact hh.pX i q T hq hT
    · rw [if_neg hi] at hq
      rw [if_neg (by rw [h.xl]; exact hi), h.xl] at hT
      have h1 := (List.getElem?_eq_some_iff.1 hq).1
      simp at h1
      have e9 : i - ps.length = 0 := by omega
      have e8 : i = ps.length := by omega
      rw [e9] at hq hT
      injection hq with hq
      injection hT with hT
      subst hq hT e8
      exact hx3) (fun i q T hq hT => by
    rw [List.getElem?_append] at hq hT
    by_cases hi : i < ps.length
    · rw [if_pos hi] at hq
      rw [if_pos (by rw [h.xl]; exact hi)] at hT
      exact hh.pY i q T hq hT
    · rw [if_neg hi] at hq
      rw [if_neg (by rw [h.xl]; exact hi), h.xl] at hT
      have h1 := (List.getElem?_eq_some_iff.1 hq).1
      simp at h1
      have e9 : i - ps.length = 0 := by omega
      have e8 : i = ps.length := by omega
      rw [e9] at hq hT
      injection hq with hq
      injection hT with hT
      subst hq hT e8
      exact hy3) (by rw [List.length_append, List.length_append, h.xl]; rfl) (by rw [List.length_append, List.length_append, h.xl]; rfl) hh.fI hh.fd hh.fl hh.aI hh.sI
  exact ⟨⟨_, _, b4⟩, heap_cell hh.blk rfl, heap_fz hh.blk⟩
set_option maxRecDepth 100000 in
theorem num_any (x : Int) (w : World) : Calls Try.prog 30 #[.int .i64 x] w fun e w' => e = .returned (.int .i64 x) ∧ w' = w := by
  go_enter Try.func30, Try.ntmps30
  go_wp2
  go_ret
  exact ⟨by first | rfl | (simp; done), rfl⟩
/-- what a step leaves -/
structure Sp (W0 : World) (wb np nf nl : Nat) (w : World) : Prop where
  at' : ∃ ρ P ps S F A G Lv Lm, Bk 22 W0 ρ w wb P ps S S F A G Lv Lm ∧ Lm.length = Lv.length ∧ A.length = F.length ∧ G = F.map Prod.snd ∧ ps.length ≤ np ∧ F.length ≤ nf ∧ Lv.length ≤ nl
end Go.Proofs.Ytakciepfckdpfaa
