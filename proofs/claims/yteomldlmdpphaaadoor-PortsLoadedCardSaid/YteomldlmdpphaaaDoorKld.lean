/- States that are told and loaded, plainly; what was sent since. -/
import Derived.Test.YteomldlmdpphaaaDoorPpF
import Derived.Test.YteomldlmdpphaaaDoorKsr
namespace Go.Proofs.YteomldlmdpphaaaDoor
open Go.RowKit
set_option linter.unusedVariables false
variable {p : Po}
/-- the line goes just where a transfer does -/
structure Po.Ln (p : Po) : Prop where
  z : p.tr = 0 → p.li ≠ 129 ∧ p.se = 0
  n : p.tr ≠ 0 → p.li = 129
theorem Po.Ln.of {p q : Po} (h : p.Ln) (h1 : q.tr = p.tr) (h2 : q.li = p.li) (h3 : q.se = p.se) : q.Ln :=
  ⟨fun e => by rw [h2, h3]; exact h.z (by rw [← h1]; exact e), fun e => by rw [h2]; exact h.n (by rw [← h1]; exact e)⟩
theorem newPo_ln : newPo.Ln := ⟨fun _ => ⟨by decide, rfl⟩, fun h => absurd rfl h⟩
theorem keysThen_ln {p q : Po} (h : q.Ln) : (p.keysThen q).Ln := by
  unfold Po.keysThen
  split
  · exact h
  · exact h.of rfl rfl rfl
theorem tick_ln (h : p.Ln) : p.tick.Ln := by
  unfold Po.tick
  split <;> exact h.of rfl rfl rfl
theorem driveThen_ln {p q : Po} (h : q.Ln) : (p.driveThen q).Ln := by
  unfold Po.driveThen
  split
  · exact tick_ln h
  · exact h
theorem Po.Ln.wr (h : p.Ln) (i x : Int) : (p.wr i x).Ln := by
  unfold Po.wr
  split
  · exact keysThen_ln (h.of rfl rfl rfl)
  split
  · exact h.of rfl rfl rfl
  split
  · unfold Po.line
    split
    · exact ⟨fun e => absurd (show (4096 : Int) = 0 from e) (by decide), fun _ => rfl⟩
    · rename_i e
      exact ⟨fun _ => ⟨e, rfl⟩, fun h => absurd rfl h⟩
  split
  · exact driveThen_ln (h.of rfl rfl rfl)
  split
  · exact h.of rfl rfl rfl
  split
  · exact h.of rfl rfl rfl
  split
  · exact driveThen_ln (h.of rfl rfl rfl)
  · exact h.of rfl rfl rfl
theorem Po.Ln.pass (h : p.Ln) (o : p.Ok) (m : Int) (m0 : 0 < m) (f : p.Fit m) : (p.pass m).Ln := by
  have h1 : (p.passAl m).Ln := by
    unfold Po.passAl
    split
    · exact h
    · split <;> exact h.of rfl rfl rfl
  have h2 : ((p.passAl m).count m).Ln := by
    unfold Po.count
    split
    · exact tick_ln (h1.of rfl rfl rfl)
    · exact h1.of rfl rfl rfl
  have ol : (p.passAl m).count m |>.Ok := Po.Ok.count (o.passAl m (by omega) f.al) m
  unfold Po.pass
  generalize (p.passAl m).count m = q at *
  unfold Po.passTr
  split
  · exact h2
  · rename_i e
    split
    · refine ⟨fun _ => ⟨?_, rfl⟩, fun h => absurd rfl h⟩
      show bits .andNot .u8 q.li 128 ≠ 129
      rcases ol.li with e | e | e | e <;> rw [e] <;> decide
    · rename_i e1
      exact ⟨fun e2 => absurd e2 e1, fun _ => h2.n e⟩
theorem run_ln : ∀ (n : Nat) (p : Po) (zs : List Int) (c : Int), c.toNat ≤ n → p.Ok → p.Ln → (p.run zs c).1.Ln := by
  intro n
  induction n with
  | zero =>
    intro p zs c hn o h
    have : c.toNat = 0 := by omega
    unfold Po.run
    rw [this]
    exact h
  | succ n ih =>
    intro p zs c hn o h
    by_cases hc : 0 < c
    · have b := Po.soon_b o c hc
      rw [Po.run_step o zs c hc]
      exact ih _ _ _ (by omega) (o.pass _ (by omega) b.2.2) (h.pass o _ (by omega) b.2.2)
    · have : c.toNat = 0 := by omega
      unfold Po.run
      rw [this]
      exact h
theorem pk (x n : Int) (h : 0 < n) : 0 ≤ pickI x n ∧ pickI x n ≤ n - 1 := ⟨pickI_lo x n h, by have := pickI_hi x n h; omega⟩
theorem actP_ok (s : Po × List Int) (k a c : Int) (o : s.1.Ok) (h : s.1.Ln) (l : s.2.length ≤ 256) : (actP s k a c).1.Ok ∧ (actP s k a c).1.Ln ∧ (actP s k a c).2.length ≤ 256 := by
  unfold actP
  split
  · exact ⟨(Po.run_ok _ _ _ _ (Nat.le_refl _) o l).1, run_ln _ _ _ _ (Nat.le_refl _) o h, (Po.run_ok _ _ _ _ (Nat.le_refl _) o l).2⟩
  split
  · have x := pk c 256 (by decide)
    exact ⟨o.wr _ _ x.1 (by omega), h.wr _ _, l⟩
  split
  · have x := pk a 256 (by decide)
    exact ⟨Po.Ok.keysThen (o.press _ x.1 (by omega)), keysThen_ln (h.of rfl rfl rfl), l⟩
  · exact ⟨o.take _, h.of rfl rfl rfl, l⟩
theorem actsP_ok (f : Nat → Nat → Int) (s : Po × List Int) (o : s.1.Ok) (h : s.1.Ln) (l : s.2.length ≤ 256) : ∀ n, (actsP f s n).1.Ok ∧ (actsP f s n).1.Ln ∧ (actsP f s n).2.length ≤ 256 := by
  intro n
  induction n with
  | zero => exact ⟨o, h, l⟩
  | succ n ih => exact actP_ok _ _ _ _ ih.1 ih.2.1 ih.2.2
/-- what was sent since -/
def Rel (zs L1 L2 : List Int) : Prop := ∃ F, L1 = lastB (zs ++ F) ∧ L2 = lastB F
theorem rel_pass (p : Po) (c : Int) (zs L1 L2 : List Int) (h : Rel zs L1 L2) : Rel zs (p.passZ c L1) (p.passZ c L2) := by
  unfold Po.passZ
  generalize (p.passAl c).count c = q
  unfold Po.trZ
  split
  · exact h
  · split
    · obtain ⟨F, h1, h2⟩ := h
      rw [h1, h2]
      exact ⟨F ++ [q.se], (lastB_sent (zs ++ F) q.se).trans (congrArg lastB (List.append_assoc zs F [q.se])), lastB_sent F q.se⟩
    · exact h
theorem rel_run : ∀ (n : Nat) (p : Po) (zs L1 L2 : List Int) (c : Int), c.toNat ≤ n → p.Ok → Rel zs L1 L2 → (p.run L1 c).1 = (p.run L2 c).1 ∧ Rel zs (p.run L1 c).2 (p.run L2 c).2 := by
  intro n
  induction n with
  | zero =>
    intro p zs L1 L2 c hn o h
    have : c.toNat = 0 := by omega
    unfold Po.run
    rw [this]
    exact ⟨rfl, h⟩
  | succ n ih =>
    intro p zs L1 L2 c hn o h
    by_cases hc : 0 < c
    · have b := Po.soon_b o c hc
      rw [Po.run_step o L1 c hc, Po.run_step o L2 c hc]
      exact ih _ _ _ _ _ (by omega) (o.pass _ (by omega) b.2.2) (rel_pass p _ zs L1 L2 h)
    · have : c.toNat = 0 := by omega
      unfold Po.run
      rw [this]
      exact ⟨rfl, h⟩
theorem rel_acts (f : Nat → Nat → Int) (p : Po) (o : p.Ok) (ln : p.Ln) (zs L1 L2 : List Int) (l1 : L1.length ≤ 256) (h : Rel zs L1 L2) : ∀ n, (actsP f (p, L1) n).1 = (actsP f (p, L2) n).1 ∧ Rel zs (actsP f (p, L1) n).2 (actsP f (p, L2) n).2 := by
  intro n
  induction n with
  | zero => exact ⟨rfl, h⟩
  | succ n ih =>
    have ok := actsP_ok f (p, L1) o ln l1 n
    show (actP (actsP f (p, L1) n) (f n 0) (f n 1) (f n 2)).1 = (actP (actsP f (p, L2) n) (f n 0) (f n 1) (f n 2)).1 ∧ Rel zs (actP (actsP f (p, L1) n) (f n 0) (f n 1) (f n 2)).2 (actP (actsP f (p, L2) n) (f n 0) (f n 1) (f n 2)).2
    generalize actsP f (p, L1) n = A at *
    generalize actsP f (p, L2) n = B at *
    obtain ⟨a, A⟩ := A
    obtain ⟨b, B⟩ := B
    dsimp only at *
    obtain ⟨rfl, hr⟩ := ih
    unfold actP
    split
    · exact rel_run _ _ _ _ _ _ (Nat.le_refl _) ok.1 hr
    split
    · exact ⟨rfl, hr⟩
    split
    · exact ⟨rfl, hr⟩
    · exact ⟨rfl, hr⟩
theorem rel_end (zs L1 L2 : List Int) (h : Rel zs L1 L2) (hz : zs.length ≤ 256) : L2.length ≤ L1.length ∧ (zs.length + L2.length ≤ 256 → L1 = zs ++ L2) := by
  obtain ⟨F, h1, h2⟩ := h
  rw [h1, h2, lastB_len, lastB_len, List.length_append]
  refine ⟨by omega, fun hs => ?_⟩
  by_cases hF : F.length ≤ 256
  · rw [lastB_few F hF]
    exact lastB_few _ (by rw [List.length_append]; omega)
  · have : zs.length = 0 := by omega
    obtain rfl := List.eq_nil_of_length_eq_zero this
    exact (congrArg lastB (List.nil_append F)).trans (List.nil_append (lastB F)).symm
/-- a state that is told may be loaded -/
theorem ld_back (o : p.Ok) : ldP (fun j => (stB p).getD j 0) = p := by
  have c := o.co
  have t := o.tr
  have a := o.al
  obtain ⟨bu, ro, sh, li, co, ti, ag, ct, rq, al, tr, se⟩ := p
  show (⟨bu, ro, sh, li, IntKind.u8.wrap co + IntKind.u8.wrap (co / 256) * 256, ti, ag, ct, rq, IntKind.u8.wrap al, IntKind.u8.wrap tr + IntKind.u8.wrap (tr / 256) * 256, se⟩ : Po) = _
  dsimp only at c t a
  rw [IntKind.wrap_u8', IntKind.wrap_u8', IntKind.wrap_u8', IntKind.wrap_u8', IntKind.wrap_u8']
  congr 1 <;> omega
theorem an_facts : ∀ x : Int, 0 ≤ x → x ≤ 255 → (x ≤ 7 → (bits .andNot .u8 x 7 != 0) = false) ∧ (x ≤ 31 → (bits .andNot .u8 x 31 != 0) = false) := byteAll (by decide +kernel)
theorem may_back (o : p.Ok) (h : p.Ln) : mayB p = true := by
  have e1 : (bits .andNot .u8 p.ro 48 != 0) = false := by rcases o.ro with e | e | e | e <;> rw [e] <;> decide
  have e2 : (bits .andNot .u8 p.li 129 != 0) = false := by rcases o.li with e | e | e | e <;> rw [e] <;> decide
  have e3 := (an_facts p.ct o.ct.1 (by have := o.ct.2; omega)).1 o.ct.2
  have e4 := (an_facts p.rq o.rq.1 (by have := o.rq.2; omega)).2 o.rq.2
  have e5 : decide (4 < p.al) = false := decide_eq_false (by have := o.al.2; omega)
  have e6 : decide (4096 < p.tr) = false := decide_eq_false (by have := o.tr.2; omega)
  unfold mayB
  rw [e1, e2, e3, e4, e5, e6]
  by_cases ht : p.tr = 0
  · have := h.z ht
    simp [ht, this.1, this.2]
  · have := h.n ht
    simp [ht, this]
theorem byte_back (o : p.Ok) : ∀ x ∈ stB p, 0 ≤ x ∧ x ≤ 255 := by
  intro x hx
  simp [stB] at hx
  have li : 0 ≤ p.li ∧ p.li ≤ 255 := by rcases o.li with e | e | e | e <;> omega
  have ro : 0 ≤ p.ro ∧ p.ro ≤ 255 := by rcases o.ro with e | e | e | e <;> omega
  have ct : 0 ≤ p.ct ∧ p.ct ≤ 255 := by have := o.ct; omega
  have rq : 0 ≤ p.rq ∧ p.rq ≤ 255 := by have := o.rq; omega
  have w : ∀ z : Int, 0 ≤ IntKind.u8.wrap z ∧ IntKind.u8.wrap z ≤ 255 := fun z => by rw [IntKind.wrap_u8']; omega
  rcases hx with rfl | rfl | rfl | rfl | rfl | rfl | rfl | rfl | rfl | rfl | rfl | rfl | rfl | rfl | rfl
  · exact o.bu
  · exact ro
  · exact o.sh
  · exact li
  · exact w _
  · exact w _
  · exact o.ti
  · exact o.ag
  · exact ct
  · exact rq
  · exact w _
  · exact w _
  · exact w _
  · exact o.se
  · decide
end Go.Proofs.YteomldlmdpphaaaDoor
