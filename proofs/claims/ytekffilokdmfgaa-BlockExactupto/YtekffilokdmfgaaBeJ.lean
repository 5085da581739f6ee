/- Block: writes and reads, whatever they are asked; lists on their way into the book. -/
import Derived.Test.YtekffilokdmfgaaBeI
namespace Go.Proofs.Ytekffilokdmfgaa
open Go.RowKit
set_option linter.unusedVariables false
set_option linter.unusedSimpArgs false
variable {w w' w1 W : World} {ρ ρ' : Nat → Nat} {R : Nat → Prop} {K : Nat → Prop} {S : Sto} {sb ob qb n g q base : Nat} {b : Int} {f fd : Nat → Int} {aa : Option Addr} {v : Value}
theorem Mv.two (m : Mv R ρ ρ' w w') (h : ρ ob = 6 ∧ ρ qb = 6 ∧ ob < w.heap.size ∧ qb < w.heap.size) (h6 : R 6) : ρ' ob = 6 ∧ ρ' qb = 6 ∧ ob < w'.heap.size ∧ qb < w'.heap.size := by
  obtain ⟨h1, h2, h3, h4⟩ := h
  exact ⟨(m.bl ob h3 (by rw [h1]; exact h6)).1.trans h1, (m.bl qb h4 (by rw [h2]; exact h6)).1.trans h2, Nat.lt_of_lt_of_le h3 m.size, Nat.lt_of_lt_of_le h4 m.size⟩
/-- what a write tells -/
def Sto.wE (S : Sto) (b : Int) (n : Nat) : Int := if 0 ≤ b ∧ b < (S.n : Int) ∧ n = 512 then (if S.left = 0 then 101 else 0) else 1
/-- what a write makes -/
def Sto.wS (S : Sto) (b : Int) (n : Nat) (fd : Nat → Int) : Sto := if (0 ≤ b ∧ b < (S.n : Int) ∧ n = 512) ∧ S.left ≠ 0 then S.wrote b.toNat fd else S
theorem writeX {c : Nat} (h : StAt K W sb S) (hb : I64 b) (D : Lk K W (.slice aa n c) n fd) (hp : S.pend.length ≤ 1099511627776) : Calls Try.prog 17 #[.pointer (some ⟨sb, 0, none⟩), .int .i64 b, .slice aa n c] W fun e w' => e = .returned (.int .i64 (S.wE b n)) ∧ StAt K w' sb (S.wS b n fd) ∧ FK K W w' := by
  have hn : n ≤ 9223372036854775807 := by
    obtain ⟨_, _, _, c', e, h1, h2, _⟩ := D.at'
    injection e with _ _ e3
    unfold maxLen at h2
    omega
  by_cases h1 : 0 ≤ b ∧ b < (S.n : Int) ∧ n = 512
  · obtain ⟨i, rfl⟩ : ∃ i : Nat, b = (i : Int) := ⟨b.toNat, by omega⟩
    obtain ⟨_, h3, rfl⟩ := h1
    by_cases hl : S.left = 0
    · have e1 : S.wE (i : Int) 512 = 101 := by unfold Sto.wE; rw [if_pos ⟨by omega, h3, rfl⟩, if_pos hl]
      have e2 : S.wS (i : Int) 512 fd = S := by unfold Sto.wS; rw [if_neg (fun e => e.2 hl)]
      rw [e1, e2]
      have h0 := h
      obtain ⟨A, h⟩ := h
      refine (write_full h (by omega) hl).mono fun e w' ⟨q1, q2⟩ => ⟨q1, ?_, ?_⟩
      · rw [q2]; exact h0
      · rw [q2]; exact FK.ofUp (Up.refl W)
    · have e1 : S.wE (i : Int) 512 = 0 := by unfold Sto.wE; rw [if_pos ⟨by omega, h3, rfl⟩, if_neg hl]
      have e2 : S.wS (i : Int) 512 fd = S.wrote i fd := by unfold Sto.wS; rw [if_pos ⟨⟨by omega, h3, rfl⟩, hl⟩]; rfl
      rw [e1, e2]
      exact write_ok h (by omega) hl D hp
  · have e1 : S.wE b n = 1 := by unfold Sto.wE; rw [if_neg h1]
    have e2 : S.wS b n fd = S := by unfold Sto.wS; rw [if_neg (fun e => h1 e.1)]
    rw [e1, e2]
    have h0 := h
    obtain ⟨A, h⟩ := h
    refine (write_no h hb hn (by omega)).mono fun e w' ⟨q1, q2⟩ => ⟨q1, ?_, ?_⟩
    · rw [q2]; exact h0
    · rw [q2]; exact FK.ofUp (Up.refl W)
theorem writeY {c : Nat} (h : RfAt K W sb S) (hb : I64 b) (D : Lk K W (.slice aa n c) n fd) (h8 : ∀ k, 0 ≤ fd k ∧ fd k ≤ 255) (hp : S.pend.length ≤ 1099511627776) : Calls Try.prog 18 #[.pointer (some ⟨sb, 0, none⟩), .int .i64 b, .slice aa n c] W fun e w' => e = .returned (.int .i64 (S.wE b n)) ∧ RfAt K w' sb (S.wS b n fd) ∧ FK K W w' := by
  have hn : n ≤ 9223372036854775807 := by
    obtain ⟨_, _, _, c', e, h1, h2, _⟩ := D.at'
    injection e with _ _ e3
    unfold maxLen at h2
    omega
  by_cases h1 : 0 ≤ b ∧ b < (S.n : Int) ∧ n = 512
  · obtain ⟨i, rfl⟩ : ∃ i : Nat, b = (i : Int) := ⟨b.toNat, by omega⟩
    obtain ⟨_, h3, rfl⟩ := h1
    by_cases hl : S.left = 0
    · have e1 : S.wE (i : Int) 512 = 101 := by unfold Sto.wE; rw [if_pos ⟨by omega, h3, rfl⟩, if_pos hl]
      have e2 : S.wS (i : Int) 512 fd = S := by unfold Sto.wS; rw [if_neg (fun e => e.2 hl)]
      rw [e1, e2]
      have h0 := h
      obtain ⟨A, h⟩ := h
      refine (writeR_full h (by omega) hl).mono fun e w' ⟨q1, q2⟩ => ⟨q1, ?_, ?_⟩
      · rw [q2]; exact h0
      · rw [q2]; exact FK.ofUp (Up.refl W)
    · have e1 : S.wE (i : Int) 512 = 0 := by unfold Sto.wE; rw [if_pos ⟨by omega, h3, rfl⟩, if_neg hl]
      have e2 : S.wS (i : Int) 512 fd = S.wrote i fd := by unfold Sto.wS; rw [if_pos ⟨⟨by omega, h3, rfl⟩, hl⟩]; rfl
      rw [e1, e2]
      exact writeR_ok h (by omega) hl D h8 hp
  · have e1 : S.wE b n = 1 := by unfold Sto.wE; rw [if_neg h1]
    have e2 : S.wS b n fd = S := by unfold Sto.wS; rw [if_neg (fun e => h1 e.1)]
    rw [e1, e2]
    have h0 := h
    obtain ⟨A, h⟩ := h
    refine (writeR_no h hb hn (by omega)).mono fun e w' ⟨q1, q2⟩ => ⟨q1, ?_, ?_⟩
    · rw [q2]; exact h0
    · rw [q2]; exact FK.ofUp (Up.refl W)
theorem Sto.Gd.wS (h : S.Gd) (b : Int) (n : Nat) (hf : ∀ k, 0 ≤ fd k ∧ fd k ≤ 255) : (S.wS b n fd).Gd := by
  unfold Sto.wS
  split
  · exact h.wrote _ hf
  · exact h
theorem Sto.wS_len (S : Sto) (b : Int) (n : Nat) (fd : Nat → Int) : (S.wS b n fd).pend.length ≤ S.pend.length + 1 := by
  unfold Sto.wS
  split
  · show (S.pend ++ [_]).length ≤ _
    rw [List.length_append]
    exact Nat.le_refl _
  · omega
/-- how many bytes a read tells, and the error -/
def Sto.rN (S : Sto) (b : Int) : Nat := if 0 ≤ b ∧ b < (S.n : Int) then 512 else 0
def Sto.rE (S : Sto) (b : Int) : Int := if 0 ≤ b ∧ b < (S.n : Int) then 0 else 1
theorem Sto.rN_le (S : Sto) (b : Int) : S.rN b ≤ 512 := by unfold Sto.rN; split <;> omega
/-- a list of one's own, its blocks of the role q -/
structure Lst (q : Nat) (ρ : Nat → Nat) (base : Nat) (w : World) (v : Value) (n : Nat) (f : Nat → Int) : Prop where
  own : w.ownsRow base 5 1 v n (byL f n)
  ro : ∀ b, v.ownBlock = some b → ρ b = q
theorem Lst.mv (h : Lst q ρ base w v n f) (m : Mv R ρ ρ' w w') (hq : R q) : Lst q ρ' base w' v n f :=
  ⟨own_keep h.own fun g hg => (m.bl g (h.own.lt g hg).2 (by rw [h.ro g hg]; exact hq)).2, fun b hb => (m.bl b (h.own.lt b hb).2 (by rw [h.ro b hb]; exact hq)).1.trans (h.ro b hb)⟩
theorem Lst.lb (h : Lst q ρ base w v n f) (h8 : ∀ k, 0 ≤ f k ∧ f k ≤ 255) : Lb w v n f := by
  obtain ⟨a, b, o, c, rfl, hb, _⟩ := byts_own h.own h8
  exact hb.lb (v := .slice none 0 0)
theorem Lst.sl (h : Lst q ρ base w v n f) : ∃ a c, v = .slice a n c ∧ n ≤ c ∧ c ≤ 9223372036854775807 := own_sl h.own
/-- bytes of the role q -/
structure Yst (q : Nat) (ρ : Nat → Nat) (w : World) (g n c : Nat) (f : Nat → Int) : Prop where
  by' : By w g n f
  ro : ρ g = q
  c1 : n ≤ c
  c2 : c ≤ maxLen
theorem Yst.mv {c : Nat} (h : Yst q ρ w g n c f) (m : Mv R ρ ρ' w w') (hq : R q) : Yst q ρ' w' g n c f := by
  have k := m.bl g h.by'.lt (by rw [h.ro]; exact hq)
  exact ⟨h.by'.of_block k.2, k.1.trans h.ro, h.c1, h.c2⟩
theorem Yst.lb {c : Nat} (h : Yst q ρ w g n c f) : Lb w (.slice (some ⟨g, 0, none⟩) n c) n f := h.by'.lb h.c1 h.c2
theorem readX (h : StAt K W sb S) (hb : I64 b) : Calls Try.prog 12 #[.pointer (some ⟨sb, 0, none⟩), .int .i64 b] W fun e w' => ∃ a c, e = .returned (.tuple #[.slice a (S.rN b) c, .int .i64 (S.rE b)]) ∧ w'.ownsRow W.heap.size 5 1 (.slice a (S.rN b) c) (S.rN b) (byL (fun k => S.now (512 * b.toNat + k)) (S.rN b)) ∧ Up W w' := by
  obtain ⟨A, h⟩ := h
  by_cases h1 : 0 ≤ b ∧ b < (S.n : Int)
  · obtain ⟨i, rfl⟩ : ∃ i : Nat, b = (i : Int) := ⟨b.toNat, by omega⟩
    have e1 : S.rN (i : Int) = 512 := if_pos h1
    have e2 : S.rE (i : Int) = 0 := if_pos h1
    rw [e1, e2]
    refine (readZ h (i := i) (by omega)).mono fun e w' ⟨g, cap, q1, q2, q3, q4, q5, q6⟩ => ⟨_, cap, q1, ?_, q6⟩
    exact q3.own q2 q4 q5
  · have e1 : S.rN b = 0 := if_neg h1
    have e2 : S.rE b = 1 := if_neg h1
    rw [e1, e2]
    refine (read_no h hb (by omega)).mono fun e w' ⟨q1, q2⟩ => ⟨none, 0, q1, own_none _ _ _, by rw [q2]; exact Up.refl W⟩
theorem readY (h : RfAt K W sb S) (g : S.Gd) (hp : S.pend.length ≤ 1099511627776) (hb : I64 b) : Calls Try.prog 13 #[.pointer (some ⟨sb, 0, none⟩), .int .i64 b] W fun e w' => ∃ a c, e = .returned (.tuple #[.slice a (S.rN b) c, .int .i64 (S.rE b)]) ∧ Lb w' (.slice a (S.rN b) c) (S.rN b) (fun k => S.now (512 * b.toNat + k)) ∧ Up W w' := by
  obtain ⟨A, h⟩ := h
  by_cases h1 : 0 ≤ b ∧ b < (S.n : Int)
  · obtain ⟨i, rfl⟩ : ∃ i : Nat, b = (i : Int) := ⟨b.toNat, by omega⟩
    have e1 : S.rN (i : Int) = 512 := if_pos h1
    have e2 : S.rE (i : Int) = 0 := if_pos h1
    rw [e1, e2]
    refine (readR_any h g.s8 hp (i := i) (by omega)).mono fun e w' ⟨g', cap, q1, q2, q3, q4, q5, q6⟩ => ⟨_, cap, q1, ?_, q6⟩
    rw [← g.ok] at q3
    exact q3.lb q4 q5
  · have e1 : S.rN b = 0 := if_neg h1
    have e2 : S.rE b = 1 := if_neg h1
    rw [e1, e2]
    refine (readR_no h hb (by omega)).mono fun e w' ⟨q1, q2⟩ => ⟨none, 0, q1, Lb.nil _ _, by rw [q2]; exact Up.refl W⟩
/-- a store's bound behind a change -/
theorem set_bound {Ss : List Sto} {j N : Nat} {s' : Sto} (hP : ∀ s ∈ Ss, s.pend.length ≤ N) (h : s'.pend.length ≤ N + 8) : ∀ s ∈ Ss.set j s', s.pend.length ≤ N + 8 := fun s hs => by
  rcases List.mem_or_eq_of_mem_set hs with e | e
  · have := hP s e; omega
  · rw [e]; exact h
end Go.Proofs.Ytekffilokdmfgaa
