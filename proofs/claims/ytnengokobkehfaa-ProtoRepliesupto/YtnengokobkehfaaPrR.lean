/- Proto, plainly: frames one behind the other. No condition. -/
import Derived.Test.YtnengokobkehfaaPrQ
namespace Go.Proofs.Ytnengokobkehfaa
set_option linter.unusedVariables false
abbrev Tab := List (Int × List Part)
inductive Fst where
  | wait
  | bad
  | whole (n : Nat)
/-- what stands at a of n bytes -/
def fstF (f : Nat → Int) (n a : Nat) : Fst :=
  if n < a + 4 then .wait
  else if num f a 4 < 1 ∨ 262400 < num f a 4 then .bad
  else if n < a + 4 + (num f a 4).toNat then .wait
  else .whole (num f a 4).toNat
theorem fst_whole {f : Nat → Int} {n a L : Nat} : fstF f n a = .whole L ↔ a + 4 + L ≤ n ∧ 1 ≤ L ∧ L ≤ 262400 ∧ num f a 4 = L := by
  unfold fstF
  by_cases h1 : n < a + 4
  · rw [if_pos h1]
    exact ⟨fun h => (by cases h), fun h => by omega⟩
  · rw [if_neg h1]
    by_cases h2 : num f a 4 < 1 ∨ 262400 < num f a 4
    · rw [if_pos h2]
      exact ⟨fun h => (by cases h), fun h => by omega⟩
    · rw [if_neg h2]
      by_cases h3 : n < a + 4 + (num f a 4).toNat
      · rw [if_pos h3]
        exact ⟨fun h => (by cases h), fun h => by omega⟩
      · rw [if_neg h3]
        constructor
        · intro h
          injection h with h
          omega
        · intro h
          congr 1
          omega
theorem fst_bad {f : Nat → Int} {n a : Nat} : fstF f n a = .bad ↔ a + 4 ≤ n ∧ (num f a 4 < 1 ∨ 262400 < num f a 4) := by
  unfold fstF
  by_cases h1 : n < a + 4
  · rw [if_pos h1]
    exact ⟨fun h => (by cases h), fun h => by omega⟩
  · rw [if_neg h1]
    by_cases h2 : num f a 4 < 1 ∨ 262400 < num f a 4
    · rw [if_pos h2]
      exact ⟨fun _ => ⟨by omega, h2⟩, fun _ => rfl⟩
    · rw [if_neg h2]
      by_cases h3 : n < a + 4 + (num f a 4).toNat
      · rw [if_pos h3]
        exact ⟨fun h => (by cases h), fun h => absurd h.2 h2⟩
      · rw [if_neg h3]
        exact ⟨fun h => (by cases h), fun h => absurd h.2 h2⟩
theorem fst_wait {f : Nat → Int} {n a : Nat} : fstF f n a = .wait ↔ (n < a + 4 ∨ (¬ (num f a 4 < 1 ∨ 262400 < num f a 4) ∧ n < a + 4 + (num f a 4).toNat)) := by
  unfold fstF
  by_cases h1 : n < a + 4
  · rw [if_pos h1]
    exact ⟨fun _ => Or.inl h1, fun _ => rfl⟩
  · rw [if_neg h1]
    by_cases h2 : num f a 4 < 1 ∨ 262400 < num f a 4
    · rw [if_pos h2]
      exact ⟨fun h => (by cases h), fun h => (by rcases h with h | h; exact absurd h h1; exact absurd h2 h.1)⟩
    · rw [if_neg h2]
      by_cases h3 : n < a + 4 + (num f a 4).toNat
      · rw [if_pos h3]
        exact ⟨fun _ => Or.inr ⟨h2, h3⟩, fun _ => rfl⟩
      · rw [if_neg h3]
        exact ⟨fun h => (by cases h), fun h => (by rcases h with h | h; exact absurd h h1; exact absurd h.2 h3)⟩
/-- of n bytes, from a on: what they tell, how far they are read, what is wrong there -/
inductive Dec (T : Tab) (f : Nat → Int) (n : Nat) : Nat → List C → Nat → Int → Prop where
  | wait {a : Nat} : fstF f n a = .wait → Dec T f n a [] a 0
  | bad {a : Nat} : fstF f n a = .bad → Dec T f n a [] a 121
  | wrong {a L : Nat} {e : Int} : fstF f n a = .whole L → parseF T f (a + 4) L = .error e → Dec T f n a [] a e
  | step {a L r : Nat} {e : Int} {c : C} {l : List C} : fstF f n a = .whole L → parseF T f (a + 4) L = .ok c → Dec T f n (a + 4 + L) l r e → Dec T f n a (c :: l) r e
variable {T : Tab} {f : Nat → Int} {n n' a r r' : Nat} {e e' : Int} {l l' : List C}
theorem Dec.det (h : Dec T f n a l r e) : ∀ {l' : List C} {r' : Nat} {e' : Int}, Dec T f n a l' r' e' → l = l' ∧ r = r' ∧ e = e' := by
  induction h with
  | wait h1 =>
    intro l' r' e' k
    cases k with
    | wait _ => exact ⟨rfl, rfl, rfl⟩
    | bad k => rw [h1] at k; cases k
    | wrong k _ => rw [h1] at k; cases k
    | step k _ _ => rw [h1] at k; cases k
  | bad h1 =>
    intro l' r' e' k
    cases k with
    | wait k => rw [h1] at k; cases k
    | bad k => exact ⟨rfl, rfl, rfl⟩
    | wrong k _ => rw [h1] at k; cases k
    | step k _ _ => rw [h1] at k; cases k
  | wrong h1 h2 =>
    intro l' r' e' k
    cases k with
    | wait k => rw [h1] at k; cases k
    | bad k => rw [h1] at k; cases k
    | wrong k k2 =>
      rw [h1] at k
      injection k with k
      subst k
      rw [h2] at k2
      injection k2 with k2
      exact ⟨rfl, rfl, k2⟩
    | step k k2 _ =>
      rw [h1] at k
      injection k with k
      subst k
      rw [h2] at k2
      cases k2
  | step h1 h2 _ ih =>
    intro l' r' e' k
    cases k with
    | wait k => rw [h1] at k; cases k
    | bad k => rw [h1] at k; cases k
    | wrong k k2 =>
      rw [h1] at k
      injection k with k
      subst k
      rw [h2] at k2
      cases k2
    | step k k2 k3 =>
      rw [h1] at k
      injection k with k
      subst k
      rw [h2] at k2
      injection k2 with k2
      subst k2
      obtain ⟨e1, e2, e3⟩ := ih k3
      exact ⟨by rw [e1], e2, e3⟩
theorem Dec.le (h : Dec T f n a l r e) : a ≤ r ∧ (a ≤ n → r ≤ n) := by
  induction h with
  | wait _ => exact ⟨Nat.le_refl _, id⟩
  | bad _ => exact ⟨Nat.le_refl _, id⟩
  | wrong _ _ => exact ⟨Nat.le_refl _, id⟩
  | step h1 _ _ ih =>
    have := fst_whole.1 h1
    exact ⟨by omega, fun _ => ih.2 (by omega)⟩
theorem Dec.err (h : Dec T f n a l r e) : e = 0 ∨ e = 121 ∨ e = 122 ∨ e = 123 := by
  induction h with
  | wait _ => exact Or.inl rfl
  | bad _ => exact Or.inr (Or.inl rfl)
  | wrong _ h2 => exact Or.inr (parse_err h2)
  | step _ _ _ ih => exact ih
theorem Dec.many (h : Dec T f n a l r e) : a + 5 * l.length ≤ r := by
  induction h with
  | wait _ => simp
  | bad _ => simp
  | wrong _ _ => simp
  | step h1 _ _ ih =>
    have := fst_whole.1 h1
    simp only [List.length_cons]
    omega
theorem whole_more {L : Nat} (h : fstF f n a = .whole L) (hn : n ≤ n') : fstF f n' a = .whole L := by
  have := fst_whole.1 h
  exact fst_whole.2 ⟨by omega, this.2⟩
theorem Dec.join (h : Dec T f n a l r e) : e = 0 → n ≤ n' → Dec T f n' r l' r' e' → Dec T f n' a (l ++ l') r' e' := by
  induction h with
  | wait _ => exact fun _ _ k => k
  | bad _ => intro h; cases h
  | wrong _ h2 => intro h; have := parse_err h2; omega
  | step h1 h2 _ ih => exact fun h hn k => .step (whole_more h1 hn) h2 (ih h hn k)
theorem Dec.more (h : Dec T f n a l r e) : e ≠ 0 → n ≤ n' → Dec T f n' a l r e := by
  induction h with
  | wait _ => intro h; exact absurd rfl h
  | bad h1 => exact fun _ hn => .bad (fst_bad.2 ⟨by have := (fst_bad.1 h1).1; omega, (fst_bad.1 h1).2⟩)
  | wrong h1 h2 => exact fun _ hn => .wrong (whole_more h1 hn) h2
  | step h1 h2 _ ih => exact fun h hn => .step (whole_more h1 hn) h2 (ih h hn)
theorem num_shift (f : Nat → Int) (s a w : Nat) : num (fun k => f (s + k)) a w = num f (s + a) w := num_congr _ fun k _ => by show f (s + (a + k)) = _; rw [Nat.add_assoc]
theorem Dec.shift {s : Nat} (h : Dec T (fun k => f (s + k)) n a l r e) : Dec T f (s + n) (s + a) l (s + r) e := by
  induction h with
  | wait h1 =>
    have := fst_wait.1 h1
    rw [num_shift] at this
    exact .wait (fst_wait.2 (by omega))
  | bad h1 =>
    have := fst_bad.1 h1
    rw [num_shift] at this
    exact .bad (fst_bad.2 ⟨by omega, this.2⟩)
  | wrong h1 h2 =>
    have := fst_whole.1 h1
    rw [num_shift] at this
    rw [parse_shift, ← Nat.add_assoc] at h2
    exact .wrong (fst_whole.2 ⟨by omega, this.2⟩) h2
  | step h1 h2 _ ih =>
    have := fst_whole.1 h1
    rw [num_shift] at this
    rw [parse_shift, ← Nat.add_assoc] at h2
    rw [← Nat.add_assoc, ← Nat.add_assoc] at ih
    exact .step (fst_whole.2 ⟨by omega, this.2⟩) h2 ih
theorem readPs_congr {f g : Nat → Int} {e : Nat} : ∀ (ps : List Part) (o : Nat) (d : C), (∀ k, k < e → f k = g k) → readPs f e ps o d = readPs g e ps o d
  | [], o, d, _ => rfl
  | p :: ps, o, d, h => by
    have hv : readV f e o p = readV g e o p := by
      unfold readV
      by_cases h1 : o + p.width ≤ e
      · have hn : num f o p.width = num g o p.width := num_congr _ fun k hk => h _ (by omega)
        rw [if_pos h1, if_pos h1, hn]
        by_cases h2 : o + p.width + (num g o p.width).toNat ≤ e
        · have hb : bl f (o + p.width) (num g o p.width).toNat = bl g (o + p.width) (num g o p.width).toNat := bl_congr fun k hk => h _ (by omega)
          rw [hb]
        · rw [if_neg h2, if_neg h2]
      · rw [if_neg h1, if_neg h1]
    unfold readPs
    rw [hv]
    cases readV g e o p with
    | none => rfl
    | some x =>
      obtain ⟨v, k⟩ := x
      simp only
      rw [readPs_congr ps _ _ h]
theorem fst_congr {f g : Nat → Int} (h : ∀ k, k < n → f k = g k) : fstF f n a = fstF g n a := by
  unfold fstF
  by_cases h1 : n < a + 4
  · rw [if_pos h1, if_pos h1]
  · have : num f a 4 = num g a 4 := num_congr _ fun k hk => h _ (by omega)
    rw [this]
theorem parse_congr {f g : Nat → Int} {o m : Nat} (h : ∀ k, k < o + m → f k = g k) (hm : 1 ≤ m) : parseF T f o m = parseF T g o m := by
  unfold parseF
  rw [h o (by omega)]
  cases look T (g o) with
  | none => rfl
  | some ps => exact readPs_congr ps _ _ h
/-- only the bytes that there are count -/
theorem Dec.congr {g : Nat → Int} (h : Dec T f n a l r e) : (∀ k, k < n → f k = g k) → Dec T g n a l r e := by
  induction h with
  | wait h1 => exact fun h => .wait ((fst_congr h).symm.trans h1)
  | bad h1 => exact fun h => .bad ((fst_congr h).symm.trans h1)
  | wrong h1 h2 =>
    intro h
    have := fst_whole.1 h1
    exact .wrong ((fst_congr h).symm.trans h1) ((parse_congr (fun k hk => h k (by omega)) this.2.1).symm.trans h2)
  | step h1 h2 _ ih =>
    intro h
    have := fst_whole.1 h1
    exact .step ((fst_congr h).symm.trans h1) ((parse_congr (fun k hk => h k (by omega)) this.2.1).symm.trans h2) (ih h)
/-- what was read, written again -/
theorem Dec.enc (ht : tabOk T = true) (h8 : F8 f) (h : Dec T f n a l r e) : ∃ bs : List (List Int), l.map (encF T) = bs.map Except.ok ∧ bs.flatten = bl f a (r - a) ∧ ∀ c ∈ l, c.cl := by
  induction h with
  | wait _ => exact ⟨[], rfl, by rw [Nat.sub_self]; rfl, fun _ h => by cases h⟩
  | bad _ => exact ⟨[], rfl, by rw [Nat.sub_self]; rfl, fun _ h => by cases h⟩
  | wrong _ _ => exact ⟨[], rfl, by rw [Nat.sub_self]; rfl, fun _ h => by cases h⟩
  | @step a L r e c l h1 h2 h3 ih =>
    obtain ⟨bs, i1, i2, i3⟩ := ih
    obtain ⟨w1, w2, w3, w4⟩ := fst_whole.1 h1
    obtain ⟨p1, p2⟩ := enc_parse ht h8 w2 h2
    have hr := h3.le.1
    refine ⟨(dg (L : Nat) 4 ++ bl f (a + 4) L) :: bs, by rw [List.map_cons, List.map_cons, i1, p1], ?_, ?_⟩
    · rw [List.flatten_cons, i2, ← w4, dg_num h8, ← bl_add, show r - a = (4 + L) + (r - (a + 4 + L)) by omega, bl_add f a (4 + L), Nat.add_assoc]
    · intro d hd
      rcases List.mem_cons.1 hd with rfl | hd
      · exact p2
      · exact i3 d hd
/-- what was written, read -/
theorem Dec.encs (ht : tabOk T = true) : ∀ (cs : List C) (bs : List (List Int)) (a : Nat), (∀ c ∈ cs, c.cl) → cs.map (encF T) = bs.map Except.ok → bl f a bs.flatten.length = bs.flatten → a + bs.flatten.length ≤ n → Dec T f n (a + bs.flatten.length) l r e → Dec T f n a (cs ++ l) r e
  | [], bs, a, _, h, _, _, k => by
    cases bs with
    | nil => exact k
    | cons b bs => cases h
  | c :: cs, bs, a, hc, h, hb, hn, k => by
    cases bs with
    | nil => cases h
    | cons b bs =>
      simp only [List.map_cons, List.cons.injEq] at h
      obtain ⟨h1, h2⟩ := h
      rw [List.flatten_cons] at hb hn k
      obtain ⟨s1, s2⟩ := bl_split hb
      obtain ⟨L, q1, q2, q3, q4, q5⟩ := parse_enc ht (hc c List.mem_cons_self) h1 s1
      rw [List.length_append] at hn k
      refine .step (L := L) (fst_whole.2 ⟨by omega, q2, q3, q4⟩) q5 ?_
      have e1 : a + 4 + L = a + b.length := by omega
      rw [e1]
      refine Dec.encs ht cs bs (a + b.length) (fun d hd => hc d (List.mem_cons_of_mem _ hd)) h2 s2 (by omega) ?_
      rw [Nat.add_assoc]
      exact k
/-- a frame that is not whole waits -/
theorem Dec.part (ht : tabOk T = true) {c : C} (hc : c.cl) {b : List Int} (h : encF T c = .ok b) (hb : bl f a b.length = b) (hn : n < a + b.length) : Dec T f n a [] a 0 := by
  obtain ⟨L, q1, q2, q3, q4, q5⟩ := parse_enc ht hc h hb
  refine .wait (fst_wait.2 ?_)
  rw [q4]
  omega
theorem Dec.none (hn : n ≤ a) : Dec T f n a [] a 0 := .wait (fst_wait.2 (Or.inl (by omega)))
/-- the kinds of messages -/
def msgT : Tab := [
  (1, [⟨.tenant, false, 1, .btw 1 8⟩, ⟨.name, true, 1, .name⟩, ⟨.data, true, 4, .btw 0 262144⟩]),
  (2, [⟨.n, false, 1, .btw 0 255⟩]),
  (3, [⟨.n, false, 2, .btw 1 600⟩]),
  (4, []), (5, []),
  (6, [⟨.n, false, 2, .btw 0 65535⟩]),
  (7, [])]
/-- the kinds of replies -/
def repT : Tab := [
  (1, [⟨.n, false, 4, .btw 0 131072⟩]),
  (2, []),
  (3, [⟨.n, false, 2, .btw 1 65535⟩]),
  (4, [⟨.n, false, 4, .btw 0 4294967295⟩, ⟨.m, false, 4, .btw 0 4294967295⟩]),
  (5, [⟨.n, false, 4, .btw 0 4294967295⟩, ⟨.data, true, 4, .btw 0 5760⟩]),
  (6, [⟨.n, false, 4, .btw 0 131072⟩]),
  (7, [⟨.n, false, 1, .btw 0 255⟩]),
  (8, [⟨.n, false, 4, .btw 0 4294967295⟩]),
  (9, [⟨.n, false, 4, .btw 0 4294967295⟩])]
theorem msg_ok : tabOk msgT = true := by decide +kernel
theorem rep_ok : tabOk repT = true := by decide +kernel
theorem msg_m : (msgT.all fun x => decide (Fld.m ∉ flds x.2)) = true := by decide +kernel
theorem rep_tenant : (repT.all fun x => decide (Fld.tenant ∉ flds x.2)) = true := by decide +kernel
theorem rep_name : (repT.all fun x => decide (Fld.name ∉ flds x.2)) = true := by decide +kernel
end Go.Proofs.Ytnengokobkehfaa
