/- Arena: Load and Store. -/
import Derived.Test.YteijdcidemajfaaArU
namespace Go.Proofs.Yteijdcidemajfaa
open Go.Shelf Go.RowKit
set_option linter.unusedVariables false
variable {R : Nat → Option Role} {K K' : Nat → Prop} {w w' W : World} {pb : Nat} {A : Ad} {P : Pl}
def cloRen : Go.Shelf.Ren := ⟨fun | 41 => 45 | n => n, fun | 22 => 45 | 23 => 5 | 4 => 4 | n => n, fun | n => n⟩
theorem cloB : Go.Proofs.SlLaysE0.n41 Try.prog cloRen := {
  mixed := by kernel_rfl
  f41 := ⟨Try.f45.name, by decide, Try.func45.trans (congrArg some (by kernel_rfl))⟩
  t4 := Try.underlying4
  a4 := Try.isAgg4
  z4 := Try.sizeOf4
  v4 := Try.zeroValue4
  t22 := Try.underlying45
  a22 := Try.isAgg45
  z22 := Try.sizeOf45
  v22 := Try.zeroValue45 }
/-- bytes that a list has: n of them, as f says -/
structure Lst (w : World) (g n cap : Nat) (f : Nat → Int) : Prop where
  lt : g < w.heap.size
  nc : n ≤ cap
  cm : cap ≤ maxLen
  cell : ∀ k, k < n → w.cell? ⟨g, k, none⟩ = some (.int .u8 (f k))
theorem Lst.up {g n cap : Nat} {f : Nat → Int} (h : Lst w g n cap f) (u : Up w w') : Lst w' g n cap f := ⟨Nat.lt_of_lt_of_le h.lt u.size, h.nc, h.cm, fun k hk => (u.cell h.lt).trans (h.cell k hk)⟩
def strN (n : Nat) (f : Nat → Int) : ByteArray := strOfNums ((List.range' 0 n).map f)
theorem Lst.conv {g n cap : Nat} {f : Nat → Int} (h : Lst w g n cap f) : (convert 45 9 (.slice (some ⟨g, 0, none⟩) n cap)).run Try.prog w = .ok (.string (strN n f)) w := by
  refine run_convert_bytes_arg w 45 5 Try.underlying45 Try.underlying5 g 0 n cap ((List.range' 0 n).map f) (by rw [List.length_map, List.length_range']) (fun i hi => ?_) 9 Try.underlying9
  rw [Nat.zero_add, h.cell i hi]
  congr 2
  unfold List.getD
  rw [List.getElem?_map, List.getElem?_range' hi]
  simp
theorem strN_congr {n : Nat} {f g : Nat → Int} (h : ∀ k, k < n → f k = g k) : strN n f = strN n g := by
  unfold strN
  congr 1
  refine List.map_congr_left fun k hk => h k ?_
  rw [List.mem_range'_1] at hk
  omega
theorem cloneB_any {g o n cap : Nat} {f : Nat → Int} (hn : n ≤ 65536) (hc : ∀ k, k < n → W.cell? ⟨g, o + k, none⟩ = some (.int .u8 (f k))) :
    Calls Try.prog 45 #[.slice (some ⟨g, o, none⟩) n cap] W fun e w' => ∃ g' cap', e = .returned (.slice (some ⟨g', 0, none⟩) n cap') ∧ W.heap.size ≤ g' ∧ Lst w' g' n cap' f ∧ Up W w' := by
  refine (Go.Proofs.AnyE.slices_Clone cloB Try.t5 (.int .u8 0) 1 1 (by kernel_rfl) (by kernel_rfl) (by kernel_rfl) (by kernel_rfl) rfl (by decide) Try.sizeOf5 g o n cap ((List.range' 0 n).map (fun k => .int .u8 (f k))) W (by simp) (by unfold maxLen; omega) (by omega) (fun j u hj => ?_) (fun u hu => ?_)).mono ?_
  · have hjn : j < n := by have := (List.getElem?_eq_some_iff.1 hj).1; simpa using this
    rw [List.getElem?_map, List.getElem?_range' hjn] at hj
    simp at hj
    rw [← hj]
    exact hc j hjn
  · obtain ⟨k, _, rfl⟩ := List.mem_map.1 hu
    rfl
  · rintro e w' ⟨v', h1, h2, h3, h4⟩
    rcases h2.2 with ⟨hv, _⟩ | ⟨g', cap', cur, hv, hbase, hg, hn', hcm, hcs, htk⟩
    · exact absurd hv h3
    · refine ⟨g', cap', by rw [h1, hv], hbase, ⟨heap_at hg, hn', hcm, fun k hk => ?_⟩, Up.ofBelow h4⟩
      have e1 := own_at htk k (by omega)
      refine heap_cell hg ?_
      rw [e1, List.getElem?_map, List.getElem?_range' hk]
      simp
set_option maxRecDepth 100000 in
theorem load_err {id b at' n e0 : Int} (hid : I64 id) (hb : I64 b) (hat : I64 at') (hn : I64 n) (h : PlR R K W pb A P) (ok : Ok P) (hs : P.span id b at' n = .err e0) :
    Calls Try.prog 20 #[.pointer (some ⟨pb, 0, none⟩), .int .i64 id, .int .i64 b, .int .i64 at', .int .i64 n] W fun e w' => e = .returned (.tuple #[.slice none 0 0, .int .i64 e0]) ∧ Up W w' := by
  have HS : Hid _ := span_any hid hb hat hn h ok
  rw [hs] at HS
  unfold Sp.val at HS
  dsimp only at HS
  have HC : Hid (∀ w, Calls Try.prog 45 #[.slice none 0 0] w fun e w' => e = .returned (.slice none 0 0) ∧ w' = w) := fun w => Go.Proofs.AnyE.slices_Clone_nil cloB 0 0 w
  clear h ok hs hid hb hat hn
  go_enter Try.func20, Try.ntmps20
  go_wp2_with fail
  refine Calls.mono HS.out ?_
  rintro e w2 ⟨rfl, u2⟩
  have H2 : Hid (Up W w2) := u2
  clear u2
  go_wp2_with fail
  refine (HC.out _).mono ?_
  rintro e w' ⟨rfl, hw'⟩
  obtain rfl := hw'.symm
  go_wp2_with fail
  go_ret2
  exact ⟨by first | rfl | (simp; done), H2.out⟩
set_option maxRecDepth 100000 in
set_option maxHeartbeats 1000000 in
theorem load_ok {id b at' n : Int} {l : Loan} {A0 N0 : Nat} (hid : I64 id) (hb : I64 b) (hat : I64 at') (hn : I64 n) (h : PlR R K W pb A P) (ok : Ok P) (hs : P.span id b at' n = .ok l A0 N0) :
    Calls Try.prog 20 #[.pointer (some ⟨pb, 0, none⟩), .int .i64 id, .int .i64 b, .int .i64 at', .int .i64 n] W fun e w' => ∃ g cap, e = .returned (.tuple #[.slice (some ⟨g, 0, none⟩) N0 cap, .int .i64 0]) ∧ W.heap.size ≤ g ∧ Lst w' g N0 cap (fun k => l.f (A0 + k)) ∧ Up W w' := by
  have HS : Hid _ := span_any hid hb hat hn h ok
  rw [hs] at HS
  unfold Sp.val at HS
  dsimp only at HS
  -- what was met
  have hsp : ∃ (i : Nat) (a : Arn), P.ars[i]? = some (some a) ∧ l ∈ a.loans ∧ A0 + N0 ≤ l.size := by
    unfold Pl.span at hs
    cases ha : P.arn id with
    | none => rw [ha] at hs; cases hs
    | some a =>
      rw [ha] at hs
      dsimp only at hs
      obtain ⟨i, _, hai⟩ := Pl.arn_some ha
      cases hl : a.loans[a.place b]? with
      | none => rw [hl] at hs; cases hs
      | some l' =>
        rw [hl] at hs
        dsimp only at hs
        split at hs
        · cases hs
        · injection hs with h1 h2 h3
          subst h1
          exact ⟨i, a, hai, List.mem_of_getElem? hl, by omega⟩
  obtain ⟨i, a, ha, hl, hle⟩ := hsp
  have hsz := ok.size ha hl
  have HC : Hid (∀ w o, Up W w → (N0 = 0 ∨ o = A0) → Calls Try.prog 45 #[.slice (some ⟨l.blk, o, none⟩) N0 (l.size - A0)] w fun e w' => ∃ g' cap', e = .returned (.slice (some ⟨g', 0, none⟩) N0 cap') ∧ w.heap.size ≤ g' ∧ Lst w' g' N0 cap' (fun k => l.f (A0 + k)) ∧ Up w w') := fun w o u ho => by
    have hnm := (h.byt i a l ha hl).2
    refine cloneB_any (by omega) (fun k hk => ?_)
    have : o = A0 := by omega
    subst this
    exact (u.cell (World.block_lt_of_cell? _ _ (hnm.cell (o + k) (by omega)))).trans (hnm.cell (o + k) (by omega))
  clear h ok hs hid hb hat hn ha hl
  by_cases es : l.size = A0
  · rw [if_pos es] at HS
    have n0 : N0 = 0 := by omega
    have HN0 : Hid (N0 = 0) := n0
    clear n0 es hle hsz
    go_enter Try.func20, Try.ntmps20
    go_wp2_with fail
    refine Calls.mono HS.out ?_
    rintro e w2 ⟨rfl, u2⟩
    have H2 : Hid (Up W w2) := u2
    clear u2
    go_wp2_with fail
    refine (HC.out w2 0 H2.out (Or.inl HN0.out)).mono ?_
    rintro e w3 ⟨g', cap', rfl, h1, h2, u3⟩
    have H3 : Hid (W.heap.size ≤ g' ∧ Lst w3 g' N0 cap' (fun k => l.f (A0 + k)) ∧ Up W w3) := ⟨Nat.le_trans H2.out.size h1, h2, H2.out.trans u3⟩
    clear h1 h2 u3
    go_wp2_with fail
    go_ret2
    exact ⟨g', cap', by first | rfl | (simp; done), H3.out⟩
  · rw [if_neg es] at HS
    clear es hle hsz
    go_enter Try.func20, Try.ntmps20
    go_wp2_with fail
    refine Calls.mono HS.out ?_
    rintro e w2 ⟨rfl, u2⟩
    have H2 : Hid (Up W w2) := u2
    clear u2
    go_wp2_with fail
    refine (HC.out w2 A0 H2.out (Or.inr rfl)).mono ?_
    rintro e w3 ⟨g', cap', rfl, h1, h2, u3⟩
    have H3 : Hid (W.heap.size ≤ g' ∧ Lst w3 g' N0 cap' (fun k => l.f (A0 + k)) ∧ Up W w3) := ⟨Nat.le_trans H2.out.size h1, h2, H2.out.trans u3⟩
    clear h1 h2 u3
    go_wp2_with fail
    go_ret2
    exact ⟨g', cap', by first | rfl | (simp; done), H3.out⟩
/-- what a Store makes -/
def Loan.stored (l : Loan) (at' n : Nat) (f : Nat → Int) : Loan := { l with f := fun k => if at' ≤ k ∧ k < at' + n then f (k - at') else l.f k }
theorem loanCells_stored {ls : List Loan} {p : Nat} {l : Loan} (h : ls[p]? = some l) (at' n : Nat) (f : Nat → Int) : loanCells (ls.set p (l.stored at' n f)) = loanCells ls := by
  induction ls generalizing p with
  | nil => simp at h
  | cons x r ih =>
    cases p with
    | zero =>
      simp at h
      subst h
      rfl
    | succ p =>
      show x.cells ++ loanCells (r.set p _) = x.cells ++ loanCells r
      rw [ih (by simpa using h)]
theorem blks_stored {ls : List Loan} {p : Nat} {l : Loan} (h : ls[p]? = some l) (at' n : Nat) (f : Nat → Int) : (ls.set p (l.stored at' n f)).map (·.blk) = ls.map (·.blk) := by
  induction ls generalizing p with
  | nil => simp at h
  | cons x r ih =>
    cases p with
    | zero =>
      simp at h
      subst h
      rfl
    | succ p =>
      rw [List.set_cons_succ, List.map_cons, List.map_cons, ih (by simpa using h)]
def Pl.stored (P : Pl) (i : Nat) (a : Arn) (p : Nat) (l : Loan) (at' n : Nat) (f : Nat → Int) : Pl := P.setArn i (some { a with loans := a.loans.set p (l.stored at' n f) })
/-- a loan's bytes have changed -/
theorem PlR.byt_set {i p at' n : Nat} {a : Arn} {l : Loan} {f : Nat → Int} (h : PlR R K w pb A P) (ha : P.ars[i]? = some (some a)) (hl : a.loans[p]? = some l) (hf : Fr l.blk w w') (hn : NmAt w' l.blk l.size (l.stored at' n f).f) : PlR R K w' pb A (P.stored i a p l at' n f) ∧ FK K w w' := by
  have hil := (List.getElem?_eq_some_iff.1 ha).1
  have hlm := List.mem_of_getElem? hl
  have hrb := (h.byt i a l ha hlm).1
  have hB : ∀ b s, R b = some s → s ≠ .byt i → w'.heap[b]? = w.heap[b]? := fun b s hs n1 => hf.block b (h.lt b s hs) (fun e => n1 (by rw [e, hrb] at hs; injection hs with hs; exact hs.symm))
  refine ⟨⟨h.kn, fun b hb => Nat.lt_of_lt_of_le (h.kb b hb) hf.size, fun b r hr => Nat.lt_of_lt_of_le (h.lt b r hr) hf.size, h.rp, ?_, h.nc, h.rc, ?_, h.ra, ?_, fun k y hy => ?_, fun k y hy => ?_, fun k y m hy hm => ?_, fun k y hy => ?_⟩, ⟨hf.os, hf.output, hf.size, fun b hb hk => hf.block b hb (fun e => by have := h.kn b hk; rw [e, hrb] at this; cases this)⟩⟩
  · have e : (P.stored i a p l at' n f).ars.length = P.ars.length := by unfold Pl.stored Pl.setArn; simp
    rw [e]
    exact (hB _ _ h.rp (by simp)).trans h.pool
  · obtain ⟨cs, h1, h2⟩ := h.cls
    exact ⟨cs, (hB _ _ h.rc (by simp)).trans h1, h2⟩
  · obtain ⟨cs, h1, h2, h3⟩ := h.ars
    refine ⟨cs, (hB _ _ h.ra (by simp)).trans h1, by unfold Pl.stored Pl.setArn; simp [h2], fun k y hy => ?_⟩
    rcases setArn_at hil k y hy with ⟨rfl, rfl⟩ | ⟨hk, hy⟩
    · exact (show _ = _ from h3 k (some a) ha)
    · exact h3 k y hy
  · obtain ⟨g1, g2, g3⟩ := h.free k y hy
    exact ⟨ownsRow_block g1 (fun g hg => hB g _ (g2 g hg) (by simp)), g2, g3⟩
  · rcases setArn_at hil k _ hy with ⟨rfl, e⟩ | ⟨hk, hy⟩
    · injection e with e
      subst e
      obtain ⟨g1, g2, g3, g4⟩ := h.arn k a ha
      refine ⟨g1, (hB _ _ g1 (by simp)).trans g2, ?_, g4⟩
      show w'.ownsRow 0 104 4 (A.lv k) (a.loans.set p (l.stored at' n f)).length (loanCells (a.loans.set p (l.stored at' n f)))
      rw [loanCells_stored hl, List.length_set]
      exact ownsRow_block g3 (fun g hg => hB g _ (g4 g hg) (by simp))
    · obtain ⟨g1, g2, g3, g4⟩ := h.arn k y hy
      exact ⟨g1, (hB _ _ g1 (by simp)).trans g2, ownsRow_block g3 (fun g hg => hB g _ (g4 g hg) (by simp)), g4⟩
  · rcases setArn_at hil k _ hy with ⟨rfl, e⟩ | ⟨hk, hy⟩
    · injection e with e
      subst e
      obtain ⟨j, hj⟩ := List.mem_iff_getElem?.1 hm
      rw [List.getElem?_set] at hj
      by_cases e : p = j
      · rw [if_pos e] at hj
        split at hj
        · injection hj with hj
          subst hj
          exact ⟨hrb, hn⟩
        · cases hj
      · rw [if_neg e] at hj
        obtain ⟨g1, g2⟩ := h.byt k a m ha (List.mem_of_getElem? hj)
        refine ⟨g1, g2.of_block (hf.block _ g2.lt (fun e2 => e ?_))⟩
        have hnd := h.nod k a ha
        have hpl := (List.getElem?_eq_some_iff.1 hl).1
        have hjl := (List.getElem?_eq_some_iff.1 hj).1
        have e3 : (a.loans.map (·.blk))[p]'(by simpa using hpl) = (a.loans.map (·.blk))[j]'(by simpa using hjl) := by
          rw [List.getElem_map, List.getElem_map, (List.getElem?_eq_some_iff.1 hl).2, (List.getElem?_eq_some_iff.1 hj).2]
          exact e2.symm
        exact (List.getElem_inj hnd).1 e3
    · obtain ⟨g1, g2⟩ := h.byt k y m hy hm
      exact ⟨g1, g2.of_block (hB _ _ g1 (by simp; exact hk))⟩
  · rcases setArn_at hil k _ hy with ⟨rfl, e⟩ | ⟨hk, hy⟩
    · injection e with e
      subst e
      show ((a.loans.set p (l.stored at' n f)).map (·.blk)).Nodup
      rw [blks_stored hl]
      exact h.nod k a ha
    · exact h.nod k y hy
end Go.Proofs.Yteijdcidemajfaa
