/- Two ports, side by side. -/
import Derived.Test.YteomldlmdpphaaaDoorPpS
namespace Go.Proofs.YteomldlmdpphaaaDoor
open Go.RowKit
set_option linter.unusedVariables false
variable {b : Nat} {p : Po}
structure Two (W0 : World) (bp : Nat) (p : Po) (zp : List Int) (bq : Nat) (q : Po) (zq : List Int) (W : World) : Prop where
  laid : LaidP W0
  okp : p.Ok
  okq : q.Ok
  lp : zp.length ≤ 256
  lq : zq.length ≤ 256
  np : W0.heap.size ≤ bp
  nq : W0.heap.size ≤ bq
  up : Up W0 W
  row : ∃ vp vq, PoAt W bp p vp ∧ SeAt W (bp + 1) vp zp ∧ PoAt W bq q vq ∧ SeAt W (bq + 1) vq zq ∧ bp ≠ bq ∧ vp.ownBlock ≠ some bq ∧ vq.ownBlock ≠ some bp ∧ ∀ g, vp.ownBlock = some g → vq.ownBlock ≠ some g
theorem Two.symm {W0 W : World} {bp bq : Nat} {p q : Po} {zp zq : List Int} (h : Two W0 bp p zp bq q zq W) : Two W0 bq q zq bp p zp W := by
  obtain ⟨vp, vq, h1, h2, h3, h4, h5, h6, h7, h8⟩ := h.row
  exact ⟨h.laid, h.okq, h.okp, h.lq, h.lp, h.nq, h.np, h.up, vq, vp, h3, h4, h1, h2, fun e => h5 e.symm, h7, h6, fun g e e' => h8 g e' e⟩
theorem Two.fst {W0 W : World} {bp bq : Nat} {p q : Po} {zp zq : List Int} (h : Two W0 bp p zp bq q zq W) : Pb W0 [] bp p zp W := by
  obtain ⟨vp, vq, h1, h2, _⟩ := h.row
  exact ⟨h.laid, h.okp, h.lp, h.np, h.up, vp, h1, h2, fun k o hk => by cases hk⟩
theorem Two.more {W0 W W' : World} {bp bq : Nat} {p q : Po} {zp zq : List Int} (h : Two W0 bp p zp bq q zq W) (u : Up W W') : Two W0 bp p zp bq q zq W' := by
  obtain ⟨vp, vq, h1, h2, h3, h4, h5⟩ := h.row
  exact ⟨h.laid, h.okp, h.okq, h.lp, h.lq, h.np, h.nq, h.up.trans u, vp, vq, h1.up u, h2.up u, h3.up u, h4.up u, h5⟩
theorem Two.left {W0 W : World} {bp bq : Nat} {p q p' : Po} {zp zq zp' : List Int} {f : Nat} {args : Array Value} {r : Value} (h : Two W0 bp p zp bq q zq W)
    (C : ∀ K, Pb W0 K bp p zp W → Calls Tryd.prog f args W fun e w' => e = .returned r ∧ Pb W0 K bp p' zp' w') :
    Calls Tryd.prog f args W fun e w' => e = .returned r ∧ Two W0 bp p' zp' bq q zq w' := by
  obtain ⟨vp, vq, h1, h2, h3, h4, h5, h6, h7, h8⟩ := h.row
  have ob : ∀ g, vq.ownBlock = some g → ∃ o, W.heap[g]? = some o := fun g e => ⟨_, Array.getElem?_eq_getElem (h4.lt g e).2⟩
  obtain ⟨K, hK, hKq, hKr⟩ : ∃ K : List (Nat × Obj), (∀ k o, (k, o) ∈ K → W.heap[k]? = some o ∧ k ≠ bp ∧ vp.ownBlock ≠ some k) ∧ (∃ o, (bq, o) ∈ K) ∧ ∀ g, vq.ownBlock = some g → ∃ o, (g, o) ∈ K := by
    have hq0 : W.heap[bq]? = some (.cells (q.cells vq) 60 (0, 0)) := h3
    cases hv : vq.ownBlock with
    | none =>
      refine ⟨[(bq, .cells (q.cells vq) 60 (0, 0))], fun k o hk => ?_, ⟨_, List.mem_singleton.2 rfl⟩, fun g e => by cases e⟩
      have := List.mem_singleton.1 hk
      injection this with e1 e2
      subst e1 e2
      exact ⟨hq0, fun e => h5 e.symm, h6⟩
    | some g =>
      obtain ⟨og, hg⟩ := ob g hv
      refine ⟨[(bq, .cells (q.cells vq) 60 (0, 0)), (g, og)], fun k o hk => ?_, ⟨_, List.mem_cons_self ..⟩, fun g' e => ?_⟩
      · rcases List.mem_cons.1 hk with e | hk
        · injection e with e1 e2
          subst e1 e2
          exact ⟨hq0, fun e => h5 e.symm, h6⟩
        · have := List.mem_singleton.1 hk
          injection this with e1 e2
          subst e1 e2
          exact ⟨hg, fun e => h7 (by rw [hv, e]), fun e => h8 _ e hv⟩
      · injection e with e
        subst e
        exact ⟨og, List.mem_cons_of_mem _ (List.mem_singleton.2 rfl)⟩
  refine (C K ⟨h.laid, h.okp, h.lp, h.np, h.up, vp, h1, h2, hK⟩).mono ?_
  rintro e w' ⟨rfl, g⟩
  obtain ⟨vp', g1, g2, g3⟩ := g.row
  have same : ∀ k o, (k, o) ∈ K → w'.heap[k]? = W.heap[k]? := fun k o hk => (g3 k o hk).1.trans (hK k o hk).1.symm
  obtain ⟨oq, hoq⟩ := hKq
  refine ⟨rfl, h.laid, g.ok, h.okq, g.len, h.lq, h.np, h.nq, g.up, vp', vq, g1, g2, (same bq oq hoq).trans h3, h4.of_block (fun k hk => ?_), h5, (g3 bq oq hoq).2.2, h7, fun g0 e e' => ?_⟩
  · obtain ⟨o, ho⟩ := hKr k hk
    exact same k o ho
  · obtain ⟨o, ho⟩ := hKr g0 e'
    exact (g3 g0 o ho).2.2 e
theorem Two.right {W0 W : World} {bp bq : Nat} {p q q' : Po} {zp zq zq' : List Int} {f : Nat} {args : Array Value} {r : Value} (h : Two W0 bp p zp bq q zq W)
    (C : ∀ K, Pb W0 K bq q zq W → Calls Tryd.prog f args W fun e w' => e = .returned r ∧ Pb W0 K bq q' zq' w') :
    Calls Tryd.prog f args W fun e w' => e = .returned r ∧ Two W0 bp p zp bq q' zq' w' :=
  (h.symm.left C).mono fun e w' ⟨h1, h2⟩ => ⟨h1, h2.symm⟩
/-- ports, and then others -/
theorem Two.made {W0 W1 w' : World} {bp : Nat} {p q : Po} {zp zq : List Int} (h : Pb W0 [] bp p zp W1) (k : Pb W1 [] W1.heap.size q zq w') : Two W0 bp p zp W1.heap.size q zq w' := by
  obtain ⟨vp, h1, h2, _⟩ := h.row
  obtain ⟨vq, k1, k2, _⟩ := k.row
  have hb := h.lt
  have hs := h.up.size
  refine ⟨h.laid, h.ok, k.ok, h.len, k.len, h.new, hs, h.up.trans k.up, vp, vq, h1.up k.up, h2.up k.up, k1, k2, by omega, fun e => ?_, fun e => ?_, fun g e e' => ?_⟩
  · have := (h2.lt _ e).2
    omega
  · have := (k2.lt _ e).1
    omega
  · have := (h2.lt _ e).2
    have := (k2.lt _ e').1
    omega
/-- what is read at each address, and its error -/
def Po.rv (p : Po) : Nat → Int
  | 0 => p.rd 0
  | 1 => p.rd 1
  | 2 => p.rd 2
  | 4 => p.rd 3
  | 5 => p.rd 4
  | 6 => p.rd 5
  | 7 => p.rd 6
  | 15 => p.rd 7
  | _ => 0
def reN : Nat → Int
  | 0 => 0
  | 1 => 0
  | 2 => 0
  | 4 => 0
  | 5 => 0
  | 6 => 0
  | 7 => 0
  | 15 => 0
  | _ => 51
theorem Pb.readN {W0 : World} {K : List (Nat × Obj)} {zs : List Int} {W : World} (h : Pb W0 K b p zs W) (n : Nat) (hn : n < 16) (a : Int) (ha : a = 65280 + (n : Int)) :
    Calls Tryd.prog 19 #[.pointer (some ⟨b, 0, none⟩), .int .i64 a] W fun e w' => e = .returned (.tuple #[.int .i64 (p.rv n), .int .i64 (reN n)]) ∧ Pb W0 K b p zs w' := by
  have : n = 0 ∨ n = 1 ∨ n = 2 ∨ n = 3 ∨ n = 4 ∨ n = 5 ∨ n = 6 ∨ n = 7 ∨ n = 8 ∨ n = 9 ∨ n = 10 ∨ n = 11 ∨ n = 12 ∨ n = 13 ∨ n = 14 ∨ n = 15 := by omega
  subst ha
  rcases this with rfl | rfl | rfl | rfl | rfl | rfl | rfl | rfl | rfl | rfl | rfl | rfl | rfl | rfl | rfl | rfl
  · exact h.read 0 (by decide) (by decide)
  · exact h.read 1 (by decide) (by decide)
  · exact h.read 2 (by decide) (by decide)
  · exact h.does h.ok fun v W h1 _ => read65283 v W h1
  · exact h.read 3 (by decide) (by decide)
  · exact h.read 4 (by decide) (by decide)
  · exact h.read 5 (by decide) (by decide)
  · exact h.read 6 (by decide) (by decide)
  · exact h.does h.ok fun v W h1 _ => read65288 v W h1
  · exact h.does h.ok fun v W h1 _ => read65289 v W h1
  · exact h.does h.ok fun v W h1 _ => read65290 v W h1
  · exact h.does h.ok fun v W h1 _ => read65291 v W h1
  · exact h.does h.ok fun v W h1 _ => read65292 v W h1
  · exact h.does h.ok fun v W h1 _ => read65293 v W h1
  · exact h.does h.ok fun v W h1 _ => read65294 v W h1
  · exact h.read 7 (by decide) (by decide)
theorem Pb.state {W0 : World} {K : List (Nat × Obj)} {zs : List Int} {W : World} (h : Pb W0 K b p zs W) :
    Calls Tryd.prog 25 #[.pointer (some ⟨b, 0, none⟩)] W fun e w' => e = .returned (.slice (some ⟨W.heap.size, 0, none⟩) 19 19) ∧ Bs w' (.slice (some ⟨W.heap.size, 0, none⟩) 19 19) (stB p) ∧ Up W w' := by
  obtain ⟨v, h1, _⟩ := h.row
  exact state_any h.ok v W h1
theorem Bs.conv {W : World} {v : Value} {xs : List Int} (h : Bs W v xs) : (convert 35 9 v).run Tryd.prog W = .ok (.string (strOfNums xs)) W := by
  rcases h.at' with ⟨rfl, rfl⟩ | ⟨g, o, cap, rfl, hc⟩
  · exact run_convert_bytes_nil W 35 5 Tryd.underlying35 Tryd.underlying5 0 0 9 Tryd.underlying9
  · exact run_convert_bytes_arg W 35 5 Tryd.underlying35 Tryd.underlying5 g o xs.length cap xs rfl (fun i hi => hc i _ (by simp [List.getD, hi])) 9 Tryd.underlying9
end Go.Proofs.YteomldlmdpphaaaDoor
