/- Block: Of, few; a store beside what is kept. -/
import Derived.Test.YtekffilokdmfgaaBkI
namespace Go.Proofs.Ytekffilokdmfgaa
open Go.RowKit
set_option linter.unusedVariables false
set_option linter.unusedSimpArgs false
variable {w w' W : World} {g n m o : Nat} {f f' : Nat → Int} {K K' : Nat → Prop} {sb : Nat} {A : Ad} {S : Sto}
set_option maxRecDepth 100000 in
set_option maxHeartbeats 1000000 in
theorem of_ok {v : Value} (D : Lb W v (512 * n) f) (hn1 : 1 ≤ n) (hn2 : n ≤ 4096) (hk : ∀ b, K b → b < W.heap.size) :
    Calls Try.prog 33 #[v] W fun e w' => ∃ sb, e = .returned (.tuple #[.pointer (some ⟨sb, 0, none⟩), .int .i64 0]) ∧ StAt K w' sb (Sto.fresh n f) ∧ Up W w' := by
  obtain ⟨aa, ab, ao, c, rfl, c1, c2, ad, cell⟩ := D.at'
  obtain rfl := ad (by omega)
  have HC : Hid (∀ w, w = W → Calls Try.prog 36 #[.slice (some ⟨ab, ao, none⟩) (512 * n) c] w (Cop W (512 * n) f)) := fun w hw => by subst hw; exact cloneB_any (by omega) cell
  have HWi : Hid (∀ w g cap, W.heap.size ≤ g → By w g (512 * n) f → 512 * n ≤ cap → cap ≤ maxLen → Up W w → Calls Try.prog 32 #[.slice (some ⟨g, 0, none⟩) (512 * n) cap] w fun e w' => ∃ sb, e = .returned (.pointer (some ⟨sb, 0, none⟩)) ∧ StAt K w' sb (Sto.fresh n f) ∧ Up W w') := fun w g cap h1 h2 h3 h4 u =>
    (with_any (K := K) h2 hn1 hn2 h3 h4 (fun b hb => by have := hk b hb; have := u.size; omega)).mono fun e w' ⟨sb, q1, q2, q3⟩ => ⟨sb, q1, q2, u.trans q3⟩
  have hc2 : c ≤ 9223372036854775807 := by unfold maxLen at c2; omega
  have d1 : ((512 * n : Nat) : Int) % 512 = 0 := by omega
  have d2 : ¬ ((512 * n : Nat) : Int) = 0 := by omega
  have d3 : ¬ (2097152 : Int) < ((512 * n : Nat) : Int) := by omega
  have d4 : (((512 * n : Nat) : Int) == 0) = false := beq_eq_false_iff_ne.2 d2
  have hN : 512 * n ≤ 2097152 := by omega
  clear D cell ad hk c2 hn1 hn2
  generalize 512 * n = N at *
  go_enter Try.func33, Try.ntmps33
  go_wp2_with fail
  refine (HC.out _ rfl).mono ?_
  rintro e w1 ⟨g, gc, rfl, q1, q2, q3, q4, q5⟩
  have H1 : Hid _ := HWi.out w1 g gc q1 q2 q3 q4 q5
  clear q1 q2 q3 q4 q5 HC HWi
  go_wp2_with fail
  refine Calls.mono H1.out ?_
  rintro e w2 ⟨sb, rfl, h1, h2⟩
  have H2 : Hid _ := And.intro h1 h2
  clear h1 h2 H1
  go_wp2_with fail
  go_ret2
  exact ⟨_, by first | rfl | (simp; done), H2.out⟩
set_option maxRecDepth 100000 in
theorem of_no {aa : Option Addr} {N c : Nat} (hm : N ≤ 9223372036854775807) (h : N = 0 ∨ N % 512 ≠ 0 ∨ 2097152 < N) :
    Calls Try.prog 33 #[.slice aa N c] W fun e w' => e = .returned (.tuple #[.pointer none, .int .i64 1]) ∧ w' = W := by
  by_cases h0 : N = 0
  · subst h0
    clear h
    go_enter Try.func33, Try.ntmps33
    go_wp2_with fail
    go_ret2
    exact ⟨by first | rfl | (simp; done), rfl⟩
  · have d1 : ((N : Int) == 0) = false := beq_eq_false_iff_ne.2 (by omega)
    by_cases h5 : N % 512 = 0
    · have d2 : (N : Int) % 512 = 0 := by omega
      have d3 : (2097152 : Int) < (N : Int) := by omega
      clear h h5 h0
      go_enter Try.func33, Try.ntmps33
      go_wp2_with fail
      go_ret2
      exact ⟨by first | rfl | (simp; done), rfl⟩
    · have d2 : ¬ (N : Int) % 512 = 0 := by omega
      clear h h5 h0
      go_enter Try.func33, Try.ntmps33
      go_wp2_with fail
      go_ret2
      exact ⟨by first | rfl | (simp; done), rfl⟩
theorem Ints.less {aa : Option Addr} {ab ao c k : Nat} (h : Ints w aa ab ao n c f) (hk : k ≤ n) : Ints w aa ab ao k c f :=
  ⟨Nat.le_trans hk h.lc, h.cm, fun h0 => h.ad (by omega), h.i64, fun j hj => h.cell j (by omega)⟩
/-- a store, beside all that was there in W and the blocks of K -/
structure Sx (W : World) (K : Nat → Prop) (sb : Nat) (S : Sto) (w : World) : Prop where
  st : StAt K w sb S
  up : Up W w
  old : ∀ b, b < W.heap.size → K b
theorem Sx.more (h : Sx W K sb S w) (u : Up w w') : Sx W K sb S w' := ⟨h.st.up u, h.up.trans u, h.old⟩
/-- new blocks are let into K -/
theorem Sx.let' (h : Sx W K sb S w) (u : Up w w') (hk : ∀ b, K' b → K b ∨ (w.heap.size ≤ b ∧ b < w'.heap.size)) (ho : ∀ b, K b → K' b) : Sx W K' sb S w' := ⟨h.st.upK u hk, h.up.trans u, fun b hb => ho b (h.old b hb)⟩
theorem Sx.kb (h : Sx W K sb S w) : ∀ b, K b → b < w.heap.size := by
  obtain ⟨A, h1⟩ := h.st
  exact h1.kb
theorem Sx.n1 (h : Sx W K sb S w) : 1 ≤ S.n ∧ S.n ≤ 4096 := by
  obtain ⟨A, h1⟩ := h.st
  exact ⟨h1.n1, h1.n2⟩
/-- blocks of K may change -/
theorem Sx.fr {b : Nat} (h : Sx W K sb S w) (u : Fr b w w') (hb : K b) (hw : W.heap.size ≤ b) : Sx W K sb S w' := ⟨h.st.fr u hb, Fr.up h.up hw u, h.old⟩
theorem FK.upOf {W : World} (u : Up W w) (h : FK K w w') (ho : ∀ b, b < W.heap.size → K b) : Up W w' :=
  ⟨h.os.trans u.os, h.output.trans u.output, Nat.le_trans u.size h.size, fun b hb => (h.block b (Nat.lt_of_lt_of_le hb u.size) (ho b hb)).trans (u.block b hb)⟩
theorem Sx.sync (h : Sx W K sb S w) (hp : S.pend.length ≤ 1099511627776) : Calls Try.prog 20 #[.pointer (some ⟨sb, 0, none⟩)] w fun e w' => e = .returned (.tuple #[]) ∧ Sx W K sb S.synced w' ∧ FK K w w' :=
  (sync_any h.st hp).mono fun e w' ⟨h1, h2, h3⟩ => ⟨h1, ⟨h2, h3.upOf h.up h.old, h.old⟩, h3⟩
theorem Sx.limit (h : Sx W K sb S w) {x : Int} (hx : I64 x) : Calls Try.prog 22 #[.pointer (some ⟨sb, 0, none⟩), .int .i64 x] w fun e w' => e = .returned (.tuple #[]) ∧ Sx W K sb (S.limit x) w' ∧ FK K w w' :=
  (limit_any h.st hx).mono fun e w' ⟨h1, h2, h3⟩ => ⟨h1, ⟨h2, h3.upOf h.up h.old, h.old⟩, h3⟩
theorem Sx.sectors (h : Sx W K sb S w) : Calls Try.prog 24 #[.pointer (some ⟨sb, 0, none⟩)] w fun e w' => e = .returned (.int .i64 (S.n : Int)) ∧ w' = w := by
  obtain ⟨A, h1⟩ := h.st
  exact sectors_any h1
theorem Sx.pending (h : Sx W K sb S w) : Calls Try.prog 26 #[.pointer (some ⟨sb, 0, none⟩)] w fun e w' => e = .returned (.int .i64 (S.pend.length : Int)) ∧ w' = w := by
  obtain ⟨A, h1⟩ := h.st
  exact pending_any h1
theorem Sx.image (h : Sx W K sb S w) : Calls Try.prog 28 #[.pointer (some ⟨sb, 0, none⟩)] w (Cop w (512 * S.n) S.now) := by
  obtain ⟨A, h1⟩ := h.st
  exact image_any h1
theorem Sx.crash (h : Sx W K sb S w) (hp : S.pend.length ≤ 1099511627776) {aa : Option Addr} {ab ao pl cc : Nat} {hh : Nat → Int} (D : Ints w aa ab ao pl cc hh) : Calls Try.prog 30 #[.pointer (some ⟨sb, 0, none⟩), .slice aa pl cc] w (Cop w (512 * S.n) (crashN (pkN pl hh) S.pend S.safe S.pend.length)) := by
  obtain ⟨A, h1⟩ := h.st
  exact crash_any h1 hp D
theorem Sx.read (h : Sx W K sb S w) {i : Nat} (hi : i < S.n) : Calls Try.prog 12 #[.pointer (some ⟨sb, 0, none⟩), .int .i64 (i : Int)] w fun e w' => ∃ g cap, e = .returned (.tuple #[.slice (some ⟨g, 0, none⟩) 512 cap, .int .i64 0]) ∧ w.heap.size ≤ g ∧ By w' g 512 (fun k => S.now (512 * i + k)) ∧ 512 ≤ cap ∧ cap ≤ maxLen ∧ Up w w' := by
  obtain ⟨A, h1⟩ := h.st
  exact read_ok h1 hi
theorem Sx.readNo (h : Sx W K sb S w) {x : Int} (hx : I64 x) (hno : x < 0 ∨ (S.n : Int) ≤ x) : Calls Try.prog 12 #[.pointer (some ⟨sb, 0, none⟩), .int .i64 x] w fun e w' => e = .returned (.tuple #[.slice none 0 0, .int .i64 1]) ∧ w' = w := by
  obtain ⟨A, h1⟩ := h.st
  exact read_no h1 hx hno
theorem Sx.writeNo (h : Sx W K sb S w) {x : Int} {aa : Option Addr} {dl dc : Nat} (hx : I64 x) (hl : dl ≤ 9223372036854775807) (hno : ¬ (0 ≤ x ∧ x < (S.n : Int)) ∨ dl ≠ 512) : Calls Try.prog 17 #[.pointer (some ⟨sb, 0, none⟩), .int .i64 x, .slice aa dl dc] w fun e w' => e = .returned (.int .i64 1) ∧ w' = w := by
  obtain ⟨A, h1⟩ := h.st
  exact write_no h1 hx hl hno
theorem Sx.writeFull (h : Sx W K sb S w) {i : Nat} {aa : Option Addr} {dc : Nat} (hi : i < S.n) (hl : S.left = 0) : Calls Try.prog 17 #[.pointer (some ⟨sb, 0, none⟩), .int .i64 (i : Int), .slice aa 512 dc] w fun e w' => e = .returned (.int .i64 101) ∧ w' = w := by
  obtain ⟨A, h1⟩ := h.st
  exact write_full h1 hi hl
/-- a write of bytes that were made just now -/
theorem Sx.write {w0 : World} {i cap : Nat} {fd : Nat → Int} (h : Sx W K sb S w0) (u : Up w0 w) (hg : w0.heap.size ≤ g) (hb : By w g 512 fd) (hc1 : 512 ≤ cap) (hc2 : cap ≤ maxLen) (hi : i < S.n) (hl : S.left ≠ 0) (hp : S.pend.length ≤ 1099511627776) :
    Calls Try.prog 17 #[.pointer (some ⟨sb, 0, none⟩), .int .i64 (i : Int), .slice (some ⟨g, 0, none⟩) 512 cap] w fun e w' => e = .returned (.int .i64 0) ∧ Sx W K sb (S.wrote i fd) w' ∧ FK K w w' := by
  have hgl := hb.lt
  have h1 : StAt (fun b => K b ∨ b = g) w sb S := h.st.upK u (fun b hb => hb.imp id (fun e => by omega))
  refine (write_ok h1 hi hl (By.lk hb hc1 hc2 (Or.inr rfl)) hp).mono fun e w' ⟨e1, e2, e3⟩ => ?_
  have e4 : FK K w w' := e3.mono (fun b _ hb => Or.inl hb)
  obtain ⟨A, e2⟩ := e2
  exact ⟨e1, ⟨⟨A, e2.keep (fun b hb => e2.kn b (Or.inl hb)) (fun b hb => e2.kb b (Or.inl hb)) (fun b _ => rfl)⟩, e4.upOf (h.up.trans u) h.old, h.old⟩, e4⟩
end Go.Proofs.Ytekffilokdmfgaa
