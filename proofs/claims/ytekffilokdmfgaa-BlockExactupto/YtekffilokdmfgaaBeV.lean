/- Block: any step; the script as it comes in. -/
import Derived.Test.YtekffilokdmfgaaBeF
import Derived.Test.YtekffilokdmfgaaBeK
import Derived.Test.YtekffilokdmfgaaBeL
import Derived.Test.YtekffilokdmfgaaBeM
import Derived.Test.YtekffilokdmfgaaBeN
import Derived.Test.YtekffilokdmfgaaBeO
import Derived.Test.YtekffilokdmfgaaBeP
import Derived.Test.YtekffilokdmfgaaBeR
import Derived.Test.YtekffilokdmfgaaBeT
import Derived.Test.YtekffilokdmfgaaBeU
namespace Go.Proofs.Ytekffilokdmfgaa
open Go.RowKit
set_option linter.unusedVariables false
set_option linter.unusedSimpArgs false
variable {w w' W W0 : World} {ρ : Nat → Nat} {wb N : Nat} {ia : Option Addr} {ib io il ic : Nat} {hh : Nat → Int} {kd a b c d : Int}
theorem StepAns.wide {M : Nat} {e : Ending} (h : StepAns W0 wb N ρ W e w') (hM : N ≤ M) : StepAns W0 wb M ρ W e w' := by
  obtain ⟨h1, ρ', ⟨ps, Ss, S, L, H, hf, q1, q2, q3⟩, h3⟩ := h
  exact ⟨h1, ρ', ⟨ps, Ss, S, L, H, hf, q1, by omega, fun s hs => by have := q3 s hs; omega⟩, h3⟩
theorem step_any (h : Sp W0 wb N ρ W) (hN : N ≤ 16000000) (ha : I64 a) (hb : I64 b) (hc : I64 c) (hd : I64 d) (hI : Ints W0 ia ib io il ic hh) (hI0 : ia = none → ic = 0) (hil : il ≤ 1048576) : Calls Try.prog 4 #[.pointer (some ⟨wb, 0, none⟩), .agg #[.int .i64 kd, .int .i64 a, .int .i64 b, .int .i64 c, .int .i64 d, .slice ia il ic]] W (StepAns W0 wb (N + 8) ρ W) := by
  obtain ⟨ps, Ss, S, L, H, hf, h, hL, hP⟩ := h
  have ist : Ist ρ W ia ib io il ic hh := ⟨hI.upI h.up, fun hk => by
    have q := World.block_lt_of_cell? _ _ (hI.cell 0 hk)
    exact ⟨Nat.lt_of_lt_of_le q h.up.size, h.r0 ib q⟩⟩
  by_cases k1 : kd = 1
  · subst k1
    by_cases hno : b < 1 ∨ 4096 < b
    · exact (stepNewNo h hL hP hb hno).mono fun _ _ q => q.wide (by omega)
    · obtain ⟨m, rfl⟩ : ∃ m : Nat, b = (m : Int) := ⟨b.toNat, by omega⟩
      exact (stepNewYes h hL hP (by omega) (by omega)).mono fun _ _ q => q.wide (by omega)
  by_cases k2 : kd = 2
  · subst k2
    exact (stepOf h hL hP hb hc).mono fun _ _ q => q.wide (by omega)
  by_cases k11 : kd = 11
  · subst k11
    exact (stepLast h hL hP).mono fun _ _ q => q.wide (by omega)
  by_cases hn0 : ps = []
  · subst hn0
    exact (stepNone h hL hP (beq_eq_false_iff_ne.2 k1) (beq_eq_false_iff_ne.2 k2) (beq_eq_false_iff_ne.2 k11)).mono fun _ _ q => q.wide (by omega)
  by_cases k3 : kd = 3
  · subst k3; exact stepRead h hL hP hN hn0 ha hb
  by_cases k4 : kd = 4
  · subst k4
    rcases e : (d != 0) with _ | _
    · exact stepWrite0 h hL hP hN hn0 ha hb hc e
    · exact stepWriteD h hL hP hN hn0 ha hb hc hd e
  by_cases k5 : kd = 5
  · subst k5; exact stepSync h hL hP hN hn0 ha
  by_cases k6 : kd = 6
  · subst k6; exact stepLimit h hL hP hN hn0 ha hb
  by_cases k7 : kd = 7
  · subst k7; exact stepSectors h hL hP hN hn0 ha
  by_cases k8 : kd = 8
  · subst k8; exact stepPending h hL hP hN hn0 ha
  by_cases k9 : kd = 9
  · subst k9; exact stepImage h hL hP hN hn0 ha
  by_cases k10 : kd = 10
  · subst k10; exact stepCrash h hL hP hN hn0 ha ist hI0 hil
  by_cases k12 : kd = 12
  · subst k12; exact stepTwice h hL hP hN hn0 ha hb hc hd
  exact stepElse h hL hP hN hn0 ha (beq_eq_false_iff_ne.2 k1) (beq_eq_false_iff_ne.2 k2) (beq_eq_false_iff_ne.2 k3) (beq_eq_false_iff_ne.2 k4) (beq_eq_false_iff_ne.2 k5) (beq_eq_false_iff_ne.2 k6) (beq_eq_false_iff_ne.2 k7) (beq_eq_false_iff_ne.2 k8) (beq_eq_false_iff_ne.2 k9) (beq_eq_false_iff_ne.2 k10) (beq_eq_false_iff_ne.2 k11) (beq_eq_false_iff_ne.2 k12)
/-- the world and a block that is kept -/
structure Hk (W0 : World) (wb N hb : Nat) (O : Obj) (w : World) : Prop where
  ex : ∃ ρ, Sp W0 wb N ρ w ∧ ρ hb = 6
  blk : w.heap[hb]? = some O
variable {hb : Nat} {O : Obj}
theorem Hk.step (h : Hk W0 wb N hb O W) (hN : N ≤ 16000000) (ha : I64 a) (hb' : I64 b) (hc : I64 c) (hd : I64 d) (hI : Ints W0 ia ib io il ic hh) (hI0 : ia = none → ic = 0) (hil : il ≤ 1048576) : Calls Try.prog 4 #[.pointer (some ⟨wb, 0, none⟩), .agg #[.int .i64 kd, .int .i64 a, .int .i64 b, .int .i64 c, .int .i64 d, .slice ia il ic]] W fun e w' => e = .returned (.bool true) ∧ Hk W0 wb (N + 8) hb O w' := by
  obtain ⟨ρ, h1, h2⟩ := h.ex
  have hl : hb < W.heap.size := (Array.getElem?_eq_some_iff.1 h.blk).1
  exact (step_any h1 hN ha hb' hc hd hI hI0 hil).mono fun e w' ⟨q1, ρ', q2, q3⟩ => ⟨q1, ⟨ρ', q2, (q3.bl hb hl h2).1.trans h2⟩, (q3.bl hb hl h2).2.trans h.blk⟩
theorem Hk.up (h : Hk W0 wb N hb O W) (u : Up W w) : Hk W0 wb N hb O w := by
  obtain ⟨ρ, ⟨ps, Ss, S, L, H, hf, q1, q2, q3⟩, h2⟩ := h.ex
  have hl : hb < W.heap.size := (Array.getElem?_eq_some_iff.1 h.blk).1
  exact ⟨⟨_, ⟨ps, Ss, S, L, H, hf, q1.upR u 5, q2, q3⟩, by rw [ext_lt hl]; exact h2⟩, (u.block hb hl).trans h.blk⟩
theorem Hk.looks (h : Hk W0 wb N hb O W) : Calls Try.prog 5 #[.pointer (some ⟨wb, 0, none⟩)] W fun e w' => e = .returned (.bool true) ∧ Hk W0 wb N hb O w' := by
  obtain ⟨ρ, ⟨ps, Ss, S, L, H, hf, q1, q2, q3⟩, h2⟩ := h.ex
  exact (looksB_any q1.bf).mono fun e w' ⟨e1, u⟩ => ⟨e1, h.up u⟩
theorem Hk.wide {M : Nat} (h : Hk W0 wb N hb O W) (hM : N ≤ M) : Hk W0 wb M hb O W := by
  obtain ⟨ρ, ⟨ps, Ss, S, L, H, hf, q1, q2, q3⟩, h2⟩ := h.ex
  exact ⟨⟨ρ, ⟨ps, Ss, S, L, H, hf, q1, by omega, fun s hs => by have := q3 s hs; omega⟩, h2⟩, h.blk⟩
theorem Hk.w0 (h : Hk W0 wb N hb O W) : Up W0 W := by
  obtain ⟨ρ, ⟨ps, Ss, S, L, H, hf, q1, q2, q3⟩, h2⟩ := h.ex
  exact q1.up
theorem Hk.len (h : Hk W0 wb N hb O W) : ∃ la np lc, W.cell? ⟨wb, 0, none⟩ = some (.slice la np lc) ∧ np ≤ 4 ∧ np ≤ lc ∧ lc ≤ 9223372036854775807 := by
  obtain ⟨ρ, ⟨ps, Ss, S, L, H, hf, q1, q2, q3⟩, h2⟩ := h.ex
  have k0 := q1.c0
  rcases own_cases q1.pr with ⟨e1, e2, _⟩ | ⟨g, cap, e1, e2, e3, _⟩
  · rw [e1] at k0
    exact ⟨none, 0, 0, k0, by omega, by omega, by omega⟩
  · rw [e1] at k0
    exact ⟨_, _, cap, k0, q1.l4, e2, by unfold maxLen at e3; omega⟩
/-- the empty world, and a block behind it -/
theorem Hk.start (W : World) (O : Obj) : Hk W W.heap.size 0 (W.heap.size + 1) O ((W.alloc (.cells #[.slice none 0 0, .slice none 0 0, .slice none 0 0, .slice none 0 0, .slice none 0 0, .slice none 0 0] 28)).alloc O) := by
  have z8 : ∀ k : Nat, (0 : Int) ≤ 0 ∧ (0 : Int) ≤ 255 := fun _ => ⟨Int.le_refl _, by decide⟩
  have sz := alloc_size' W (.cells #[.slice none 0 0, .slice none 0 0, .slice none 0 0, .slice none 0 0, .slice none 0 0, .slice none 0 0] 28)
  have h0 : Wd W W.heap.size (fun b => if b < W.heap.size then 0 else 2) [] [] [] (fun _ => False) ⟨.slice none 0 0, .slice none 0 0, .slice none 0 0, .slice none 0 0, .slice none 0 0, .slice none 0 0, [], []⟩ 0 (fun _ => 0) (W.alloc (.cells #[.slice none 0 0, .slice none 0 0, .slice none 0 0, .slice none 0 0, .slice none 0 0, .slice none 0 0] 28)) := by
    refine ⟨(Up.refl W).alloc _, Nat.le_refl _, fun b hb => if_pos hb, if_neg (Nat.lt_irrefl _), ⟨⟨heap_alloc_new W _, Nat.lt_succ_self _, by omega, fun b q => q.elim, rfl, own_none _ _ _, own_none _ _ _, fun b q => (by cases q), fun b q => (by cases q), fun i e m he => (by simp at he)⟩, own_none _ _ _, own_none _ _ _, Nat.zero_le _, z8, fun b q => (by cases q), fun b q => (by cases q)⟩, fun b q => ?_, ⟨rfl, Or.inl ⟨rfl, rfl⟩⟩, fun g q => (by cases q), Nat.zero_le _, rfl, rfl, ⟨none, 0, 0, 0, 0, fun _ => 0, rfl, ⟨Nat.le_refl _, Nat.zero_le _, fun h => absurd h (by decide), z8, fun k hk => absurd hk (by omega)⟩, Nat.zero_le _, fun _ => rfl, fun h => absurd h (by decide)⟩, fun j p s q => (by simp at q), fun j p s q => (by simp at q)⟩
    rcases q with q | q | q
    · exact q.elim
    · cases q
    · cases q
  refine ⟨⟨_, ⟨[], [], _, _, _, _, h0.upR ((Up.refl _).alloc O) 6, Nat.zero_le _, fun s hs => (by cases hs)⟩, ext_ge (by omega)⟩, ?_⟩
  rw [← sz]
  exact heap_alloc_new _ O
end Go.Proofs.Ytekffilokdmfgaa
