/- Proto, plainly: parts and kinds; what is written of a frame and what is read of one. No condition. -/
import Derived.Test.YtnengokobkehfaaPrP
namespace Go.Proofs.Ytnengokobkehfaa
set_option linter.unusedVariables false
/-- a field: a number; or bytes, and how many there are -/
structure V where
  num : Int
  bs : List Int
def V0 : V := ⟨0, []⟩
inductive Fld where
  | tenant | name | n | m | data
  deriving DecidableEq
/-- what a frame tells -/
structure C where
  kind : Int
  tenant : V
  name : V
  n : V
  m : V
  data : V
def C.get (c : C) : Fld → V
  | .tenant => c.tenant
  | .name => c.name
  | .n => c.n
  | .m => c.m
  | .data => c.data
def C.set (c : C) (v : V) : Fld → C
  | .tenant => { c with tenant := v }
  | .name => { c with name := v }
  | .n => { c with n := v }
  | .m => { c with m := v }
  | .data => { c with data := v }
theorem C.get_set (c : C) (v : V) (a b : Fld) : (c.set v a).get b = if b = a then v else c.get b := by
  cases a <;> cases b <;> rfl
theorem C.kind_set (c : C) (v : V) (a : Fld) : (c.set v a).kind = c.kind := by cases a <;> rfl
theorem C.ext' {c d : C} (h : c.kind = d.kind) (hg : ∀ a, c.get a = d.get a) : c = d := by
  cases c; cases d
  have h1 := hg .tenant; have h2 := hg .name; have h3 := hg .n; have h4 := hg .m; have h5 := hg .data
  simp only [C.get] at h h1 h2 h3 h4 h5
  subst h h1 h2 h3 h4 h5
  rfl
def C0 (k : Int) : C := ⟨k, V0, V0, V0, V0, V0⟩
theorem C0_get (k : Int) (a : Fld) : (C0 k).get a = V0 := by cases a <;> rfl
/-- is nothing there? -/
def C.emp (c : C) : Bool := c.tenant.num == 0 && c.name.num == 0 && c.n.num == 0 && c.m.num == 0 && c.data.num == 0
theorem C.emp_iff (c : C) : c.emp = true ↔ ∀ a, (c.get a).num = 0 := by
  constructor
  · intro h a
    simp only [C.emp, Bool.and_eq_true, beq_iff_eq] at h
    obtain ⟨⟨⟨⟨h1, h2⟩, h3⟩, h4⟩, h5⟩ := h
    cases a <;> assumption
  · intro h
    simp only [C.emp, Bool.and_eq_true, beq_iff_eq]
    exact ⟨⟨⟨⟨h .tenant, h .name⟩, h .n⟩, h .m⟩, h .data⟩
inductive Fit where
  | btw (lo hi : Int)
  | name
structure Part where
  fld : Fld
  list : Bool
  width : Nat
  fit : Fit
def letB (x : Int) : Bool := (decide (97 ≤ x) && decide (x ≤ 122)) || (decide (48 ≤ x) && decide (x ≤ 57)) || x == 45 || x == 95
def fitB : Fit → V → Bool
  | .btw lo hi, v => decide (lo ≤ v.num) && decide (v.num ≤ hi)
  | .name, v => decide (1 ≤ v.num) && decide (v.num ≤ 16) && v.bs.all letB
/-- a part that is read at o, where the frame ends at e: its value, and how many bytes it has -/
def readV (f : Nat → Int) (e o : Nat) (p : Part) : Option (V × Nat) :=
  if o + p.width ≤ e then
    if p.list then
      if o + p.width + (num f o p.width).toNat ≤ e then some (⟨num f o p.width, bl f (o + p.width) (num f o p.width).toNat⟩, p.width + (num f o p.width).toNat) else none
    else some (⟨num f o p.width, []⟩, p.width)
  else none
def readPs (f : Nat → Int) (e : Nat) : List Part → Nat → C → Except Int C
  | [], o, c => if o < e then .error 121 else .ok c
  | p :: ps, o, c =>
    match readV f e o p with
    | none => .error 121
    | some (v, k) => if fitB p.fit v then readPs f e ps (o + k) (c.set v p.fld) else .error 123
def look : List (Int × List Part) → Int → Option (List Part)
  | [], _ => none
  | (k, ps) :: r, x => if k = x then some ps else look r x
/-- the frame of n bytes at o -/
def parseF (T : List (Int × List Part)) (f : Nat → Int) (o n : Nat) : Except Int C :=
  match look T (f o) with
  | none => .error 122
  | some ps => readPs f (o + n) ps (o + 1) (C0 (f o))
def encPs : List Part → C → Except Int (List Int)
  | [], c => if c.emp then .ok [] else .error 123
  | p :: ps, c =>
    if fitB p.fit (c.get p.fld) then
      match encPs ps (c.set V0 p.fld) with
      | .ok l => .ok (dg (c.get p.fld).num p.width ++ (c.get p.fld).bs ++ l)
      | .error e => .error e
    else .error 123
def encF (T : List (Int × List Part)) (c : C) : Except Int (List Int) :=
  match look T c.kind with
  | none => .error 122
  | some ps =>
    match encPs ps c with
    | .ok l => .ok (dg (1 + l.length : Nat) 4 ++ (dg c.kind 1 ++ l))
    | .error e => .error e
/-- what kinds keep to -/
def Fit.lo : Fit → Int
  | .btw lo _ => lo
  | .name => 1
def Fit.hi : Fit → Int
  | .btw _ hi => hi
  | .name => 16
def Fld.list : Fld → Bool
  | .name => true
  | .data => true
  | _ => false
def Part.okB (p : Part) : Bool := decide (0 ≤ p.fit.lo) && decide (p.fit.hi < 256 ^ p.width) && p.list == p.fld.list && decide (p.width ≤ 4) && decide (1 ≤ p.width)
def flds (ps : List Part) : List Fld := ps.map (·.fld)
def nodupB : List Fld → Bool
  | [] => true
  | a :: r => decide (a ∉ r) && nodupB r
def maxB : List Part → Int
  | [] => 0
  | p :: ps => p.width + (if p.list then p.fit.hi else 0) + maxB ps
def psOk (ps : List Part) : Bool := ps.all Part.okB && nodupB (flds ps) && decide (1 + maxB ps ≤ 262400)
def tabOk (T : List (Int × List Part)) : Bool := T.all fun x => decide (1 ≤ x.1) && decide (x.1 ≤ 255) && psOk x.2
theorem look_mem {T : List (Int × List Part)} {x : Int} {ps : List Part} (h : look T x = some ps) : (x, ps) ∈ T := by
  induction T with
  | nil => cases h
  | cons a r ih =>
    obtain ⟨k, qs⟩ := a
    unfold look at h
    by_cases e : k = x
    · rw [if_pos e] at h
      injection h with h
      subst e h
      exact List.mem_cons_self
    · rw [if_neg e] at h
      exact List.mem_cons_of_mem _ (ih h)
theorem tab_ok {T : List (Int × List Part)} (ht : tabOk T = true) {x : Int} {ps : List Part} (h : look T x = some ps) : 1 ≤ x ∧ x ≤ 255 ∧ psOk ps = true := by
  have := List.all_eq_true.1 ht _ (look_mem h)
  simp only [Bool.and_eq_true, decide_eq_true_eq] at this
  exact ⟨this.1.1, this.1.2, this.2⟩
structure POk (p : Part) : Prop where
  lo : 0 ≤ p.fit.lo
  hi : p.fit.hi < 256 ^ p.width
  li : p.list = p.fld.list
  w4 : p.width ≤ 4
  w1 : 1 ≤ p.width
theorem part_ok {p : Part} (h : p.okB = true) : POk p := by
  simp only [Part.okB, Bool.and_eq_true, decide_eq_true_eq, beq_iff_eq] at h
  exact ⟨h.1.1.1.1, h.1.1.1.2, h.1.1.2, h.1.2, h.2⟩
theorem fit_bd {t : Fit} {v : V} (h : fitB t v = true) : t.lo ≤ v.num ∧ v.num ≤ t.hi := by
  cases t with
  | btw lo hi => simpa [fitB, Fit.lo, Fit.hi] using h
  | name =>
    simp only [fitB, Bool.and_eq_true, decide_eq_true_eq] at h
    exact h.1
/-- numbers have no bytes; bytes have their number -/
def V.cl (v : V) (a : Fld) : Prop := if a.list then v.num = v.bs.length ∧ L8 v.bs else v.bs = []
theorem V0_cl (a : Fld) : V0.cl a := by cases a <;> first | exact rfl | exact ⟨rfl, L8.nil⟩
def C.cl (c : C) : Prop := ∀ a, (c.get a).cl a
theorem C.cl.set {c : C} (h : c.cl) {v : V} {a : Fld} (hv : v.cl a) : (c.set v a).cl := by
  intro b
  rw [C.get_set]
  by_cases e : b = a
  · rw [if_pos e, e]; exact hv
  · rw [if_neg e]; exact h b
theorem V.zero_of {v : V} {a : Fld} (h : v.cl a) (h0 : v.num = 0) : v = V0 := by
  cases v with
  | mk n l =>
    have h0 : n = 0 := h0
    unfold V.cl at h
    by_cases e : a.list = true
    · rw [if_pos e] at h
      have h1 : n = l.length := h.1
      have : l.length = 0 := by omega
      rw [List.length_eq_zero_iff.1 this, h0]
      rfl
    · rw [if_neg e] at h
      have h1 : l = [] := h
      rw [h1, h0]
      rfl
def over : List Part → C → C → C
  | [], _, d => d
  | p :: ps, c, d => over ps c (d.set (c.get p.fld) p.fld)
theorem over_get (c : C) (a : Fld) : ∀ (ps : List Part) (d : C), (over ps c d).get a = if a ∈ flds ps then c.get a else d.get a
  | [], d => by rw [if_neg (by simp [flds])]; rfl
  | p :: ps, d => by
    show (over ps c (d.set (c.get p.fld) p.fld)).get a = _
    rw [over_get c a ps, C.get_set, show flds (p :: ps) = p.fld :: flds ps from rfl]
    by_cases h1 : a ∈ flds ps
    · rw [if_pos h1, if_pos (List.mem_cons_of_mem _ h1)]
    · by_cases h2 : a = p.fld
      · rw [if_neg h1, if_pos h2, if_pos (by rw [h2]; exact List.mem_cons_self), h2]
      · rw [if_neg h1, if_neg h2, if_neg (by intro h; rcases List.mem_cons.1 h with h | h; exact h2 h; exact h1 h)]
theorem over_kind (c : C) : ∀ (ps : List Part) (d : C), (over ps c d).kind = d.kind
  | [], d => rfl
  | p :: ps, d => (over_kind c ps _).trans (C.kind_set _ _ _)
theorem over_set (ps : List Part) (c d : C) (v : V) (a : Fld) (h : a ∉ flds ps) : over ps (c.set v a) d = over ps c d := by
  refine C.ext' (by rw [over_kind, over_kind]) fun b => ?_
  rw [over_get, over_get, C.get_set]
  by_cases e : b ∈ flds ps
  · rw [if_pos e, if_pos e, if_neg (fun h' : b = a => h (h' ▸ e))]
  · rw [if_neg e, if_neg e]
theorem bl_split {f : Nat → Int} {o : Nat} {a b : List Int} (h : bl f o (a ++ b).length = a ++ b) : bl f o a.length = a ∧ bl f (o + a.length) b.length = b := by
  rw [List.length_append, bl_add] at h
  exact List.append_inj h (bl_len _ _ _)
/-- what was written is read -/
theorem read_enc (f : Nat → Int) (e : Nat) : ∀ (ps : List Part) (c d : C) (o : Nat) (l : List Int), ps.all Part.okB = true → nodupB (flds ps) = true → c.cl → encPs ps c = .ok l → bl f o l.length = l → o + l.length = e → readPs f e ps o d = .ok (over ps c d) := by
  intro ps
  induction ps with
  | nil =>
    intro c d o l _ _ _ h _ he
    unfold encPs at h
    by_cases q : c.emp = true
    · rw [if_pos q] at h
      injection h with h
      subst h
      unfold readPs
      rw [if_neg (by simp at he; omega)]
      rfl
    · rw [if_neg q] at h
      cases h
  | cons p ps ih =>
    intro c d o l hok hnd hcl h hb he
    simp only [List.all_cons, Bool.and_eq_true] at hok
    have hp := part_ok hok.1
    have hnd' : p.fld ∉ flds ps ∧ nodupB (flds ps) = true := by
      simpa [flds, nodupB] using hnd
    unfold encPs at h
    by_cases hf : fitB p.fit (c.get p.fld) = true
    · rw [if_pos hf] at h
      cases hE : encPs ps (c.set V0 p.fld) with
      | error q => rw [hE] at h; cases h
      | ok l' =>
        rw [hE] at h
        injection h with h
        obtain ⟨v, hv⟩ : ∃ v, v = c.get p.fld := ⟨_, rfl⟩
        rw [← hv] at h hf
        have hvc := hcl p.fld
        rw [← hv] at hvc
        subst h
        rw [List.append_assoc] at hb he
        obtain ⟨h1, h2⟩ := bl_split hb
        rw [dg_len] at h1 h2
        obtain ⟨h3, h4⟩ := bl_split h2
        have hbd := fit_bd hf
        have hlo := hp.lo
        have hhi := hp.hi
        have hnum : num f o p.width = v.num := num_of_dg h1 (by omega) (by omega)
        have hrec := ih (c.set V0 p.fld) (d.set v p.fld) (o + p.width + v.bs.length) l' hok.2 hnd'.2 (hcl.set (V0_cl _)) hE h4 (by simp [dg_len] at he ⊢; omega)
        rw [over_set _ _ _ _ _ hnd'.1] at hrec
        have hr : readV f e o p = some (v, p.width + v.bs.length) := by
          unfold readV
          rw [hnum, if_pos (by simp [dg_len] at he; omega)]
          unfold V.cl at hvc
          by_cases el : p.list = true
          · rw [← hp.li, if_pos el] at hvc
            rw [if_pos el, hvc.1, Int.toNat_natCast, if_pos (by simp [dg_len] at he; omega), h3, ← hvc.1]
          · rw [← hp.li, if_neg el] at hvc
            rw [if_neg el]
            cases v with
            | mk x y =>
              have hvc : y = [] := hvc
              subst hvc
              rfl
        unfold readPs
        rw [hr]
        simp only [hf, if_true]
        rw [← Nat.add_assoc, hrec]
        show _ = Except.ok (over ps c (d.set (c.get p.fld) p.fld))
        rw [hv]
    · rw [if_neg hf] at h
      cases h
theorem enc_rest : ∀ (ps : List Part) (c : C) (l : List Int), c.cl → encPs ps c = .ok l → ∀ a, a ∉ flds ps → c.get a = V0 := by
  intro ps
  induction ps with
  | nil =>
    intro c l hcl h a _
    unfold encPs at h
    by_cases q : c.emp = true
    · exact V.zero_of (hcl a) ((C.emp_iff c).1 q a)
    · rw [if_neg q] at h
      cases h
  | cons p ps ih =>
    intro c l hcl h a ha
    unfold encPs at h
    by_cases hf : fitB p.fit (c.get p.fld) = true
    · rw [if_pos hf] at h
      cases hE : encPs ps (c.set V0 p.fld) with
      | error q => rw [hE] at h; cases h
      | ok l' =>
        have h1 : a ≠ p.fld := fun e => ha (by rw [e]; exact List.mem_cons_self)
        have := ih _ _ (hcl.set (V0_cl _)) hE a (fun e => ha (List.mem_cons_of_mem _ e))
        rw [C.get_set, if_neg h1] at this
        exact this
    · rw [if_neg hf] at h
      cases h
theorem enc_len : ∀ (ps : List Part) (c : C) (l : List Int), ps.all Part.okB = true → c.cl → encPs ps c = .ok l → (l.length : Int) ≤ maxB ps ∧ L8 l := by
  intro ps
  induction ps with
  | nil =>
    intro c l _ hcl h
    unfold encPs at h
    by_cases q : c.emp = true
    · rw [if_pos q] at h
      injection h with h
      subst h
      exact ⟨Int.le_refl _, L8.nil⟩
    · rw [if_neg q] at h
      cases h
  | cons p ps ih =>
    intro c l hok hcl h
    simp only [List.all_cons, Bool.and_eq_true] at hok
    have hp := part_ok hok.1
    unfold encPs at h
    by_cases hf : fitB p.fit (c.get p.fld) = true
    · rw [if_pos hf] at h
      cases hE : encPs ps (c.set V0 p.fld) with
      | error q => rw [hE] at h; cases h
      | ok l' =>
        rw [hE] at h
        injection h with h
        subst h
        obtain ⟨h1, h2⟩ := ih _ _ hok.2 (hcl.set (V0_cl _)) hE
        have hbd := fit_bd hf
        have hvc := hcl p.fld
        unfold V.cl at hvc
        simp only [List.length_append, dg_len]
        show _ ≤ (p.width : Int) + (if p.list then p.fit.hi else 0) + maxB ps ∧ _
        by_cases el : p.list = true
        · rw [← hp.li, if_pos el] at hvc
          rw [if_pos el]
          exact ⟨by omega, ((dg_u8 _ _).append hvc.2).append h2⟩
        · rw [← hp.li, if_neg el] at hvc
          rw [if_neg el, hvc]
          exact ⟨by simp; omega, ((dg_u8 _ _).append L8.nil).append h2⟩
    · rw [if_neg hf] at h
      cases h
/-- a frame that was written is read as it was -/
theorem parse_enc {T : List (Int × List Part)} (ht : tabOk T = true) {c : C} (hcl : c.cl) {l : List Int} (h : encF T c = .ok l) {f : Nat → Int} {o : Nat} (hb : bl f o l.length = l) :
    ∃ n, l.length = 4 + n ∧ 1 ≤ n ∧ n ≤ 262400 ∧ num f o 4 = n ∧ parseF T f (o + 4) n = .ok c := by
  unfold encF at h
  cases hl : look T c.kind with
  | none => rw [hl] at h; cases h
  | some ps =>
    rw [hl] at h
    simp only at h
    obtain ⟨k1, k2, hps⟩ := tab_ok ht hl
    simp only [psOk, Bool.and_eq_true, decide_eq_true_eq] at hps
    obtain ⟨⟨hok, hnd⟩, hmx⟩ := hps
    cases hE : encPs ps c with
    | error q => rw [hE] at h; cases h
    | ok l' =>
      rw [hE] at h
      injection h with h
      subst h
      have hlen := (enc_len ps c l' hok hcl hE).1
      obtain ⟨h1, h2⟩ := bl_split hb
      rw [dg_len] at h1 h2
      obtain ⟨h3, h4⟩ := bl_split h2
      rw [dg_len] at h3 h4
      have hk : f (o + 4) = c.kind := by
        have : bl f (o + 4) 1 = dg c.kind 1 := h3
        have := num_of_dg this (by omega) (by show c.kind < 256; omega)
        simpa [num] using this
      refine ⟨1 + l'.length, by simp [dg_len], by omega, by omega, num_of_dg h1 (by omega) (by show ((1 + l'.length : Nat) : Int) < 4294967296; omega), ?_⟩
      unfold parseF
      rw [hk, hl]
      show readPs f (o + 4 + (1 + l'.length)) ps (o + 4 + 1) (C0 c.kind) = _
      rw [read_enc f _ ps c (C0 c.kind) (o + 4 + 1) l' hok hnd hcl hE h4 (by omega)]
      congr 1
      refine C.ext' (over_kind _ _ _) fun a => ?_
      rw [over_get]
      by_cases ha : a ∈ flds ps
      · rw [if_pos ha]
      · rw [if_neg ha, C0_get, enc_rest ps c l' hcl hE a ha]
theorem readV_cl {f : Nat → Int} (h8 : F8 f) {e o : Nat} {p : Part} (hp : POk p) {v : V} {k : Nat} (h : readV f e o p = some (v, k)) : v.cl p.fld ∧ o + k ≤ e ∧ bl f o k = dg v.num p.width ++ v.bs := by
  unfold readV at h
  by_cases h1 : o + p.width ≤ e
  · rw [if_pos h1] at h
    by_cases el : p.list = true
    · rw [if_pos el] at h
      by_cases h2 : o + p.width + (num f o p.width).toNat ≤ e
      · rw [if_pos h2] at h
        injection h with h
        injection h with ha hb
        subst ha hb
        refine ⟨?_, by omega, ?_⟩
        · unfold V.cl
          rw [← hp.li, if_pos el]
          exact ⟨by show _ = ((bl f _ _).length : Int); rw [bl_len]; exact (Int.toNat_of_nonneg (num_lo h8 o p.width)).symm, bl_u8 h8 _ _⟩
        · rw [bl_add, dg_num h8]
      · rw [if_neg h2] at h
        cases h
    · rw [if_neg el] at h
      injection h with h
      injection h with ha hb
      subst ha hb
      refine ⟨?_, h1, ?_⟩
      · unfold V.cl
        rw [← hp.li, if_neg el]
      · rw [dg_num h8, List.append_nil]
  · rw [if_neg h1] at h
    cases h
theorem read_get {f : Nat → Int} {e : Nat} : ∀ (ps : List Part) (o : Nat) (d c : C), readPs f e ps o d = .ok c → (∀ a, a ∉ flds ps → c.get a = d.get a) ∧ c.kind = d.kind := by
  intro ps
  induction ps with
  | nil =>
    intro o d c h
    unfold readPs at h
    by_cases q : o < e
    · rw [if_pos q] at h; cases h
    · rw [if_neg q] at h
      injection h with h
      subst h
      exact ⟨fun _ _ => rfl, rfl⟩
  | cons p ps ih =>
    intro o d c h
    unfold readPs at h
    cases hr : readV f e o p with
    | none => rw [hr] at h; cases h
    | some x =>
      obtain ⟨v, k⟩ := x
      rw [hr] at h
      simp only at h
      by_cases hf : fitB p.fit v = true
      · rw [if_pos hf] at h
        obtain ⟨h1, h2⟩ := ih _ _ _ h
        refine ⟨fun a ha => ?_, h2.trans (C.kind_set _ _ _)⟩
        rw [h1 a (fun e => ha (List.mem_cons_of_mem _ e)), C.get_set, if_neg (fun e => ha (by rw [e]; exact List.mem_cons_self))]
      · rw [if_neg hf] at h
        cases h
theorem enc_read {f : Nat → Int} (h8 : F8 f) {e : Nat} : ∀ (ps : List Part) (o : Nat) (d c c' : C), ps.all Part.okB = true → nodupB (flds ps) = true → o ≤ e → readPs f e ps o d = .ok c → d.cl → (∀ a, a ∈ flds ps → c'.get a = c.get a) → (∀ a, a ∉ flds ps → (c'.get a).num = 0) → encPs ps c' = .ok (bl f o (e - o)) ∧ c.cl := by
  intro ps
  induction ps with
  | nil =>
    intro o d c c' _ _ hoe h hcl _ hz
    unfold readPs at h
    by_cases q : o < e
    · rw [if_pos q] at h; cases h
    · rw [if_neg q] at h
      injection h with h
      subst h
      refine ⟨?_, hcl⟩
      unfold encPs
      rw [if_pos ((C.emp_iff c').2 fun a => hz a (by simp [flds])), show e - o = 0 by omega]
      rfl
  | cons p ps ih =>
    intro o d c c' hok hnd hoe h hcl hg hz
    simp only [List.all_cons, Bool.and_eq_true] at hok
    have hp := part_ok hok.1
    have hnd' : p.fld ∉ flds ps ∧ nodupB (flds ps) = true := by
      simpa [flds, nodupB] using hnd
    unfold readPs at h
    cases hr : readV f e o p with
    | none => rw [hr] at h; cases h
    | some x =>
      obtain ⟨v, k⟩ := x
      rw [hr] at h
      simp only at h
      by_cases hf : fitB p.fit v = true
      · rw [if_pos hf] at h
        obtain ⟨hvc, hok', hbl⟩ := readV_cl h8 hp hr
        obtain ⟨g1, g2⟩ := read_get _ _ _ _ h
        have hcv : c.get p.fld = v := by rw [g1 _ hnd'.1, C.get_set, if_pos rfl]
        have hcv' : c'.get p.fld = v := by rw [hg _ List.mem_cons_self, hcv]
        obtain ⟨hi, hic⟩ := ih (o + k) _ c (c'.set V0 p.fld) hok.2 hnd'.2 hok' h (hcl.set hvc) (fun a ha => by
          rw [C.get_set, if_neg (fun e : a = p.fld => hnd'.1 (e ▸ ha)), hg a (List.mem_cons_of_mem _ ha)]) (fun a ha => by
          rw [C.get_set]
          by_cases e1 : a = p.fld
          · rw [if_pos e1]; rfl
          · rw [if_neg e1]
            exact hz a (by intro h'; rcases List.mem_cons.1 h' with h' | h'; exact e1 h'; exact ha h'))
        refine ⟨?_, hic⟩
        unfold encPs
        rw [hcv', if_pos hf, hi]
        show Except.ok _ = _
        rw [show e - o = k + (e - (o + k)) by omega, bl_add, hbl]
      · rw [if_neg hf] at h
        cases h
/-- a frame that was read is written as it was -/
theorem enc_parse {T : List (Int × List Part)} (ht : tabOk T = true) {f : Nat → Int} (h8 : F8 f) {o n : Nat} (hn : 1 ≤ n) {c : C} (h : parseF T f o n = .ok c) : encF T c = .ok (dg (n : Nat) 4 ++ bl f o n) ∧ c.cl := by
  unfold parseF at h
  cases hl : look T (f o) with
  | none => rw [hl] at h; cases h
  | some ps =>
    rw [hl] at h
    simp only at h
    obtain ⟨k1, k2, hps⟩ := tab_ok ht hl
    simp only [psOk, Bool.and_eq_true, decide_eq_true_eq] at hps
    obtain ⟨⟨hok, hnd⟩, hmx⟩ := hps
    have h : readPs f (o + n) ps (o + 1) (C0 (f o)) = .ok c := h
    obtain ⟨g1, g2⟩ := read_get _ _ _ _ h
    obtain ⟨hE, hcl⟩ := enc_read h8 ps (o + 1) _ c c hok hnd (by omega) h (fun a => by rw [C0_get]; exact V0_cl a) (fun _ _ => rfl) (fun a ha => by rw [g1 a ha, C0_get]; rfl)
    refine ⟨?_, hcl⟩
    have hk : c.kind = f o := g2
    unfold encF
    rw [hk, hl]
    simp only [hE]
    rw [bl_len, show (1 + (o + n - (o + 1))) = n by omega]
    have e1 : dg (f o) 1 = [f o] := by
      show [f o / 256 ^ 0 % 256] = _
      rw [Int.pow_zero, Int.ediv_one, Int.emod_eq_of_lt (by omega) (by omega)]
    rw [e1, ← bl_one, ← bl_add, show 1 + (o + n - (o + 1)) = n by omega]
theorem parse_none {T : List (Int × List Part)} {a : Fld} (ha : (T.all fun x => decide (a ∉ flds x.2)) = true) {f : Nat → Int} {o n : Nat} {c : C} (h : parseF T f o n = .ok c) : c.get a = V0 := by
  unfold parseF at h
  cases hl : look T (f o) with
  | none => rw [hl] at h; cases h
  | some ps =>
    rw [hl] at h
    have h : readPs f (o + n) ps (o + 1) (C0 (f o)) = .ok c := h
    have := of_decide_eq_true (List.all_eq_true.1 ha _ (look_mem hl))
    rw [(read_get _ _ _ _ h).1 a this, C0_get]
/-- errors are not 0 -/
theorem read_err {f : Nat → Int} {e : Nat} : ∀ (ps : List Part) (o : Nat) (d : C) (x : Int), readPs f e ps o d = .error x → x = 121 ∨ x = 123 := by
  intro ps
  induction ps with
  | nil =>
    intro o d x h
    unfold readPs at h
    by_cases q : o < e
    · rw [if_pos q] at h
      injection h with h
      exact Or.inl h.symm
    · rw [if_neg q] at h; cases h
  | cons p ps ih =>
    intro o d x h
    unfold readPs at h
    cases hr : readV f e o p with
    | none =>
      rw [hr] at h
      injection h with h
      exact Or.inl h.symm
    | some y =>
      obtain ⟨v, k⟩ := y
      rw [hr] at h
      simp only at h
      by_cases hf : fitB p.fit v = true
      · rw [if_pos hf] at h
        exact ih _ _ _ h
      · rw [if_neg hf] at h
        injection h with h
        exact Or.inr h.symm
theorem parse_err {T : List (Int × List Part)} {f : Nat → Int} {o n : Nat} {x : Int} (h : parseF T f o n = .error x) : x = 121 ∨ x = 122 ∨ x = 123 := by
  unfold parseF at h
  cases hl : look T (f o) with
  | none =>
    rw [hl] at h
    injection h with h
    exact Or.inr (Or.inl h.symm)
  | some ps =>
    rw [hl] at h
    rcases read_err _ _ _ _ h with h | h
    · exact Or.inl h
    · exact Or.inr (Or.inr h)
theorem encPs_err : ∀ (ps : List Part) (c : C) (x : Int), encPs ps c = .error x → x = 123 := by
  intro ps
  induction ps with
  | nil =>
    intro c x h
    unfold encPs at h
    by_cases q : c.emp = true
    · rw [if_pos q] at h; cases h
    · rw [if_neg q] at h
      injection h with h
      exact h.symm
  | cons p ps ih =>
    intro c x h
    unfold encPs at h
    by_cases hf : fitB p.fit (c.get p.fld) = true
    · rw [if_pos hf] at h
      cases hE : encPs ps (c.set V0 p.fld) with
      | error q =>
        rw [hE] at h
        injection h with h
        subst h
        exact ih _ _ hE
      | ok l' => rw [hE] at h; cases h
    · rw [if_neg hf] at h
      injection h with h
      exact h.symm
theorem enc_err {T : List (Int × List Part)} {c : C} {x : Int} (h : encF T c = .error x) : x = 122 ∨ x = 123 := by
  unfold encF at h
  cases hl : look T c.kind with
  | none =>
    rw [hl] at h
    injection h with h
    exact Or.inl h.symm
  | some ps =>
    rw [hl] at h
    simp only at h
    cases hE : encPs ps c with
    | error q =>
      rw [hE] at h
      injection h with h
      subst h
      exact Or.inr (encPs_err _ _ _ hE)
    | ok l' => rw [hE] at h; cases h
/-- elsewhere -/
theorem readV_shift (f : Nat → Int) (r e o : Nat) (p : Part) : readV (fun k => f (r + k)) e o p = readV f (r + e) (r + o) p := by
  have h1 : num (fun k => f (r + k)) o p.width = num f (r + o) p.width := num_congr _ fun k _ => by show f (r + (o + k)) = _; rw [Nat.add_assoc]
  have h2 : ∀ m, bl (fun k => f (r + k)) (o + p.width) m = bl f (r + o + p.width) m := fun m => bl_congr fun k _ => by show f (r + (o + p.width + k)) = _; rw [show r + (o + p.width + k) = r + o + p.width + k by omega]
  unfold readV
  rw [h1, h2]
  simp only [show ∀ x, (o + x ≤ e) = (r + o + x ≤ r + e) from fun x => by apply propext; constructor <;> intro h <;> omega, show ∀ x y, (o + x + y ≤ e) = (r + o + x + y ≤ r + e) from fun x y => by apply propext; constructor <;> intro h <;> omega]
theorem readPs_shift (f : Nat → Int) (r e : Nat) : ∀ (ps : List Part) (o : Nat) (d : C), readPs (fun k => f (r + k)) e ps o d = readPs f (r + e) ps (r + o) d
  | [], o, d => by
    unfold readPs
    simp only [show (o < e) = (r + o < r + e) from by apply propext; constructor <;> intro h <;> omega]
  | p :: ps, o, d => by
    unfold readPs
    rw [readV_shift]
    cases hr : readV f (r + e) (r + o) p with
    | none => rfl
    | some x =>
      obtain ⟨v, k⟩ := x
      simp only
      rw [readPs_shift f r e ps, Nat.add_assoc]
theorem parse_shift (T : List (Int × List Part)) (f : Nat → Int) (r o n : Nat) : parseF T (fun k => f (r + k)) o n = parseF T f (r + o) n := by
  unfold parseF
  cases look T (f (r + o)) with
  | none => rfl
  | some ps =>
    show readPs (fun k => f (r + k)) (o + n) ps (o + 1) (C0 (f (r + o))) = readPs f (r + o + n) ps (r + o + 1) (C0 (f (r + o)))
    rw [readPs_shift, Nat.add_assoc, Nat.add_assoc]
end Go.Proofs.Ytnengokobkehfaa
