/- Arena: what changes in a pool. -/
import Derived.Test.YteijdcidemajfaaArJ
namespace Go.Proofs.Yteijdcidemajfaa
open Go.RowKit
set_option linter.unusedVariables false
variable {R : Nat → Option Role} {K K' : Nat → Prop} {w w' W : World} {pb : Nat} {A : Ad} {P : Pl}
def Pl.setFree (P : Pl) (c : Nat) (x : Cls) (f : List Nat) : Pl := { P with cls := P.cls.set c { x with free := f } }
def Pl.setArn (P : Pl) (i : Nat) (a : Option Arn) : Pl := { P with ars := P.ars.set i a }
def roleAt (R : Nat → Option Role) (o : Option Nat) (r : Role) : Nat → Option Role := fun b => if o = some b then some r else R b
theorem roleAt_old {o : Option Nat} {r s : Role} {b : Nat} (hb : R b = some s) (ho : o = some b → s = r) : roleAt R o r b = some s := by
  unfold roleAt
  by_cases e : o = some b
  · rw [if_pos e, ho e]
  · rw [if_neg e, hb]
theorem roleAt_new {r : Role} {b : Nat} {o : Option Nat} (h : o = some b) : roleAt R o r b = some r := if_pos h
theorem roleAt_none {o : Option Nat} {r : Role} {b : Nat} (hb : R b = none) (ho : o ≠ some b) : roleAt R o r b = none := by
  unfold roleAt
  rw [if_neg ho, hb]
theorem PlR.fk {q o : Nat} {v v' : Value} (h : PlR R K w pb A P) (ch : Chg w w' q o v v') (hq : ∃ r, R q = some r) (hv : ∀ g, v.ownBlock = some g → ∃ r, R g = some r) : FK K w w' :=
  ⟨ch.os, ch.output, ch.size, fun b hb hk => by
    have hn := h.kn b hk
    refine ch.block b hb (fun e => ?_) (fun e => ?_)
    · obtain ⟨r, hr⟩ := hq
      rw [← e, hn] at hr
      cases hr
    · obtain ⟨r, hr⟩ := hv b e
      rw [hn] at hr
      cases hr⟩
/-- a class's free buffers have changed -/
theorem PlR.free_chg {c : Nat} {x : Cls} {v' : Value} {f : List Nat} (h : PlR R K w pb A P) (hx : P.cls[c]? = some x) (ch : Chg w w' A.cb (c * 2 + 1) (A.fv c) v') (own : w'.ownsRow 0 3 1 v' f.length (nums f)) (cap : x.many ≤ capOf v') :
    PlR (roleAt R v'.ownBlock (.free c)) K w' pb { A with fv := fun k => if k = c then v' else A.fv k } (P.setFree c x f) ∧ FK K w w' := by
  have hcl := (List.getElem?_eq_some_iff.1 hx).1
  obtain ⟨hf1, hf2, hf3⟩ := h.free c x hx
  have hO : ∀ b s, R b = some s → v'.ownBlock = some b → s = .free c := fun b s hb e => by
    rcases ch.own with e2 | ⟨g, e2, hg⟩
    · rw [e2] at e
      have := hf2 b e
      rw [hb] at this
      injection this
    · rw [e2] at e
      injection e with e
      have := h.lt b s hb
      omega
  have hR : ∀ b s, R b = some s → roleAt R v'.ownBlock (.free c) b = some s := fun b s hb => roleAt_old hb (hO b s hb)
  have hB : ∀ b s, R b = some s → s ≠ .cls → s ≠ .free c → w'.heap[b]? = w.heap[b]? := fun b s hb n1 n2 => by
    refine ch.block b (h.lt b s hb) (fun e => n1 ?_) (fun e => n2 ?_)
    · rw [e, h.rc] at hb
      injection hb with hb
      exact hb.symm
    · have := hf2 b e
      rw [hb] at this
      injection this
  have hcls : ∀ (k : Nat) y, (P.setFree c x f).cls[k]? = some y → (k = c ∧ y = { x with free := f }) ∨ (k ≠ c ∧ P.cls[k]? = some y) := fun k y hy => by
    unfold Pl.setFree at hy
    dsimp only at hy
    rw [List.getElem?_set] at hy
    by_cases e : c = k
    · rw [if_pos e, if_pos (by omega)] at hy
      injection hy with hy
      exact Or.inl ⟨e.symm, hy.symm⟩
    · rw [if_neg e] at hy
      exact Or.inr ⟨fun e' => e e'.symm, hy⟩
  refine ⟨⟨fun b hb => ?_, fun b hb => Nat.lt_of_lt_of_le (h.kb b hb) ch.size, fun b r hr => ?_, hR _ _ h.rp, ?_, ?_, hR _ _ h.rc, ?_, hR _ _ h.ra, ?_, fun k y hy => ?_, fun i a ha => ?_, fun i a l ha hl => ?_, h.nod⟩, h.fk ch ⟨_, h.rc⟩ (fun g hg => ⟨_, hf2 g hg⟩)⟩
  · refine roleAt_none (h.kn b hb) (fun e => ?_)
    rcases ch.own with e2 | ⟨g, e2, hg⟩
    · rw [e2] at e
      have := hf2 b e
      rw [h.kn b hb] at this
      cases this
    · rw [e2] at e
      injection e with e
      have := h.kb b hb
      omega
  · unfold roleAt at hr
    by_cases e : v'.ownBlock = some b
    · exact (own.lt b e).2
    · rw [if_neg e] at hr
      exact Nat.lt_of_lt_of_le (h.lt b r hr) ch.size
  · have e : (P.setFree c x f).cls.length = P.cls.length := by unfold Pl.setFree; simp
    rw [e]
    exact (hB _ _ h.rp (by simp) (by simp)).trans h.pool
  · have e : (P.setFree c x f).cls.length = P.cls.length := by unfold Pl.setFree; simp
    rw [e]
    exact h.nc
  · obtain ⟨cs, h1, h2⟩ := h.cls
    refine ⟨_, ch.cellq _ _ h1, fun k y hy => ?_⟩
    have hsz : c * 2 + 1 < cs.size := (Array.getElem?_eq_some_iff.1 (h2 c x hx).2).1
    dsimp only
    rcases hcls k y hy with ⟨rfl, rfl⟩ | ⟨hk, hy⟩
    · rw [Array.getElem?_setIfInBounds, Array.getElem?_setIfInBounds, if_neg (by omega), if_pos rfl, if_pos hsz, if_pos rfl]
      exact ⟨(h2 k x hx).1, rfl⟩
    · rw [Array.getElem?_setIfInBounds, Array.getElem?_setIfInBounds, if_neg (by omega), if_neg (by omega), if_neg hk]
      exact h2 k y hy
  · obtain ⟨cs, h1, h2⟩ := h.ars
    exact ⟨cs, (hB _ _ h.ra (by simp) (by simp)).trans h1, h2⟩
  · dsimp only
    rcases hcls k y hy with ⟨rfl, rfl⟩ | ⟨hk, hy⟩
    · rw [if_pos rfl]
      exact ⟨own, fun g hg => roleAt_new hg, cap⟩
    · rw [if_neg hk]
      obtain ⟨g1, g2, g3⟩ := h.free k y hy
      exact ⟨ownsRow_block g1 (fun g hg => hB g _ (g2 g hg) (by simp) (by simp; exact hk)), fun g hg => hR _ _ (g2 g hg), g3⟩
  · obtain ⟨g1, g2, g3, g4⟩ := h.arn i a ha
    exact ⟨hR _ _ g1, (hB _ _ g1 (by simp) (by simp)).trans g2, ownsRow_block g3 (fun g hg => hB g _ (g4 g hg) (by simp) (by simp)), fun g hg => hR _ _ (g4 g hg)⟩
  · obtain ⟨g1, g2⟩ := h.byt i a l ha hl
    exact ⟨hR _ _ g1, g2.of_block (hB _ _ g1 (by simp) (by simp))⟩
theorem setArn_at {i : Nat} {a : Option Arn} (hi : i < P.ars.length) (k : Nat) (y : Option Arn) (hy : (P.setArn i a).ars[k]? = some y) : (k = i ∧ y = a) ∨ (k ≠ i ∧ P.ars[k]? = some y) := by
  unfold Pl.setArn at hy
  dsimp only at hy
  rw [List.getElem?_set] at hy
  by_cases e : i = k
  · rw [if_pos e, if_pos (by omega)] at hy
    injection hy with hy
    exact Or.inl ⟨e.symm, hy.symm⟩
  · rw [if_neg e] at hy
    exact Or.inr ⟨fun e' => e e'.symm, hy⟩
/-- an arena's loans have changed -/
theorem PlR.loans_chg {i : Nat} {a : Arn} {v' : Value} {ls : List Loan} (h : PlR R K w pb A P) (ha : P.ars[i]? = some (some a)) (ch : Chg w w' (A.ar i) 1 (A.lv i) v') (own : w'.ownsRow 0 104 4 v' ls.length (loanCells ls)) (hl : ∀ l ∈ ls, R l.blk = some (.byt i) ∧ NmAt w l.blk l.size l.f) (hn : (ls.map (·.blk)).Nodup) :
    PlR (roleAt R v'.ownBlock (.loans i)) K w' pb { A with lv := fun k => if k = i then v' else A.lv k } (P.setArn i (some { a with loans := ls })) ∧ FK K w w' := by
  have hil := (List.getElem?_eq_some_iff.1 ha).1
  obtain ⟨ha1, ha2, ha3, ha4⟩ := h.arn i a ha
  have hO : ∀ b s, R b = some s → v'.ownBlock = some b → s = .loans i := fun b s hb e => by
    rcases ch.own with e2 | ⟨g, e2, hg⟩
    · rw [e2] at e
      have := ha4 b e
      rw [hb] at this
      injection this
    · rw [e2] at e
      injection e with e
      have := h.lt b s hb
      omega
  have hR : ∀ b s, R b = some s → roleAt R v'.ownBlock (.loans i) b = some s := fun b s hb => roleAt_old hb (hO b s hb)
  have hB : ∀ b s, R b = some s → s ≠ .ar i → s ≠ .loans i → w'.heap[b]? = w.heap[b]? := fun b s hb n1 n2 => by
    refine ch.block b (h.lt b s hb) (fun e => n1 ?_) (fun e => n2 ?_)
    · rw [e, ha1] at hb
      injection hb with hb
      exact hb.symm
    · have := ha4 b e
      rw [hb] at this
      injection this
  refine ⟨⟨fun b hb => ?_, fun b hb => Nat.lt_of_lt_of_le (h.kb b hb) ch.size, fun b r hr => ?_, hR _ _ h.rp, ?_, h.nc, hR _ _ h.rc, ?_, hR _ _ h.ra, ?_, fun k y hy => ?_, fun k y hy => ?_, fun k y l hy hly => ?_, fun k y hy => ?_⟩, h.fk ch ⟨_, ha1⟩ (fun g hg => ⟨_, ha4 g hg⟩)⟩
  · refine roleAt_none (h.kn b hb) (fun e => ?_)
    rcases ch.own with e2 | ⟨g, e2, hg⟩
    · rw [e2] at e
      have := ha4 b e
      rw [h.kn b hb] at this
      cases this
    · rw [e2] at e
      injection e with e
      have := h.kb b hb
      omega
  · unfold roleAt at hr
    by_cases e : v'.ownBlock = some b
    · exact (own.lt b e).2
    · rw [if_neg e] at hr
      exact Nat.lt_of_lt_of_le (h.lt b r hr) ch.size
  · have e : (P.setArn i (some { a with loans := ls })).ars.length = P.ars.length := by unfold Pl.setArn; simp
    rw [e]
    exact (hB _ _ h.rp (by simp) (by simp)).trans h.pool
  · obtain ⟨cs, h1, h2⟩ := h.cls
    exact ⟨cs, (hB _ _ h.rc (by simp) (by simp)).trans h1, h2⟩
  · obtain ⟨cs, h1, h2, h3⟩ := h.ars
    refine ⟨cs, (hB _ _ h.ra (by simp) (by simp)).trans h1, by unfold Pl.setArn; simp [h2], fun k y hy => ?_⟩
    rcases setArn_at hil k y hy with ⟨rfl, rfl⟩ | ⟨hk, hy⟩
    · exact (show _ = _ from h3 k (some a) ha)
    · exact h3 k y hy
  · obtain ⟨g1, g2, g3⟩ := h.free k y hy
    exact ⟨ownsRow_block g1 (fun g hg => hB g _ (g2 g hg) (by simp) (by simp)), fun g hg => hR _ _ (g2 g hg), g3⟩
  · dsimp only
    rcases setArn_at hil k _ hy with ⟨rfl, e⟩ | ⟨hk, hy⟩
    · injection e with e
      subst e
      rw [if_pos rfl]
      refine ⟨hR _ _ ha1, ?_, own, fun g hg => roleAt_new hg⟩
      have := ch.cellq _ _ ha2
      exact this
    · rw [if_neg hk]
      obtain ⟨g1, g2, g3, g4⟩ := h.arn k y hy
      exact ⟨hR _ _ g1, (hB _ _ g1 (by simp; exact hk) (by simp)).trans g2, ownsRow_block g3 (fun g hg => hB g _ (g4 g hg) (by simp) (by simp; exact hk)), fun g hg => hR _ _ (g4 g hg)⟩
  · rcases setArn_at hil k _ hy with ⟨rfl, e⟩ | ⟨hk, hy⟩
    · injection e with e
      subst e
      obtain ⟨g1, g2⟩ := hl l hly
      exact ⟨hR _ _ g1, g2.of_block (hB _ _ g1 (by simp) (by simp))⟩
    · obtain ⟨g1, g2⟩ := h.byt k y l hy hly
      exact ⟨hR _ _ g1, g2.of_block (hB _ _ g1 (by simp) (by simp))⟩
  · rcases setArn_at hil k _ hy with ⟨rfl, e⟩ | ⟨hk, hy⟩
    · injection e with e
      subst e
      exact hn
    · exact h.nod k y hy
/-- a new block comes to the pool -/
theorem PlR.take {b : Nat} {r : Role} (h : PlR R K w pb A P) (hb : b < w.heap.size) (hk : ¬ K b) (hr : R b = none) : PlR (roleAt R (some b) r) K w pb A P := by
  have hR : ∀ c s, R c = some s → roleAt R (some b) r c = some s := fun c s hc => roleAt_old hc (fun e => by
    injection e with e
    rw [e, hc] at hr
    cases hr)
  refine ⟨fun c hc => roleAt_none (h.kn c hc) (fun e => hk (by injection e with e; rw [e]; exact hc)), h.kb, fun c s hs => ?_, hR _ _ h.rp, h.pool, h.nc, hR _ _ h.rc, h.cls, hR _ _ h.ra, h.ars, fun k y hy => ?_, fun k y hy => ?_, fun k y l hy hl => ?_, h.nod⟩
  · unfold roleAt at hs
    by_cases e : some b = some c
    · injection e with e
      omega
    · rw [if_neg e] at hs
      exact h.lt c s hs
  · obtain ⟨g1, g2, g3⟩ := h.free k y hy
    exact ⟨g1, fun g hg => hR _ _ (g2 g hg), g3⟩
  · obtain ⟨g1, g2, g3, g4⟩ := h.arn k y hy
    exact ⟨hR _ _ g1, g2, g3, fun g hg => hR _ _ (g4 g hg)⟩
  · obtain ⟨g1, g2⟩ := h.byt k y l hy hl
    exact ⟨hR _ _ g1, g2⟩
/-- an arena's place has changed: opened, or closed -/
theorem PlR.ars_set {i : Nat} {o : Option (Nat × Int)} (h : PlR R K w pb A P) (hi : i < P.ars.length) (hf : Fr A.ab w w') (hb : ∀ cs ty, w.heap[A.ab]? = some (.cells cs ty (0, 0)) → w'.heap[A.ab]? = some (.cells (cs.setIfInBounds i (ptr (o.map (·.1)))) ty (0, 0))) (hn : ∀ b q, o = some (b, q) → R b = some (.ar i) ∧ w.heap[b]? = some (.cells #[.int .i64 q, .slice none 0 0] 102 (0, 0))) :
    PlR R K w' pb { A with ar := fun k => if k = i then (o.map (·.1)).getD 0 else A.ar k, lv := fun k => if k = i then .slice none 0 0 else A.lv k } (P.setArn i (o.map fun x => ⟨x.2, []⟩)) ∧ FK K w w' := by
  have hB : ∀ b s, R b = some s → s ≠ .ars → w'.heap[b]? = w.heap[b]? := fun b s hs n1 => hf.block b (h.lt b s hs) (fun e => n1 (by rw [e, h.ra] at hs; injection hs with hs; exact hs.symm))
  refine ⟨⟨h.kn, fun b hb => Nat.lt_of_lt_of_le (h.kb b hb) hf.size, fun b r hr => Nat.lt_of_lt_of_le (h.lt b r hr) hf.size, h.rp, ?_, h.nc, h.rc, ?_, h.ra, ?_, fun k y hy => ?_, fun k y hy => ?_, fun k y l hy hly => ?_, fun k y hy => ?_⟩, ⟨hf.os, hf.output, hf.size, fun b hb hk => hf.block b hb (fun e => by have := h.kn b hk; rw [e, h.ra] at this; cases this)⟩⟩
  · have e : (P.setArn i (o.map fun x => ⟨x.2, []⟩)).ars.length = P.ars.length := by unfold Pl.setArn; simp
    rw [e]
    exact (hB _ _ h.rp (by simp)).trans h.pool
  · obtain ⟨cs, h1, h2⟩ := h.cls
    exact ⟨cs, (hB _ _ h.rc (by simp)).trans h1, h2⟩
  · obtain ⟨cs, h1, h2, h3⟩ := h.ars
    refine ⟨_, hb _ _ h1, by unfold Pl.setArn; simp [h2], fun k y hy => ?_⟩
    dsimp only
    rw [Array.getElem?_setIfInBounds]
    rcases setArn_at hi k y hy with ⟨rfl, rfl⟩ | ⟨hk, hy⟩
    · rw [if_pos rfl, if_pos (by omega), if_pos rfl]
      cases o with
      | none => rfl
      | some x => rfl
    · rw [if_neg (by omega), if_neg hk]
      exact h3 k y hy
  · obtain ⟨g1, g2, g3⟩ := h.free k y hy
    exact ⟨ownsRow_block g1 (fun g hg => hB g _ (g2 g hg) (by simp)), g2, g3⟩
  · dsimp only
    rcases setArn_at hi k _ hy with ⟨rfl, e⟩ | ⟨hk, hy⟩
    · cases o with
      | none => cases e
      | some x =>
        obtain ⟨xb, xq⟩ := x
        injection e with e
        subst e
        rw [if_pos rfl, if_pos rfl]
        obtain ⟨g1, g2⟩ := hn xb xq rfl
        refine ⟨g1, (hB _ _ g1 (by simp)).trans g2, ⟨rfl, Or.inl ⟨rfl, rfl⟩⟩, fun g hg => ?_⟩
        cases hg
    · rw [if_neg hk, if_neg hk]
      obtain ⟨g1, g2, g3, g4⟩ := h.arn k y hy
      exact ⟨g1, (hB _ _ g1 (by simp)).trans g2, ownsRow_block g3 (fun g hg => hB g _ (g4 g hg) (by simp)), g4⟩
  · rcases setArn_at hi k _ hy with ⟨rfl, e⟩ | ⟨hk, hy⟩
    · cases o with
      | none => cases e
      | some x =>
        injection e with e
        subst e
        cases hly
    · obtain ⟨g1, g2⟩ := h.byt k y l hy hly
      exact ⟨g1, g2.of_block (hB _ _ g1 (by simp))⟩
  · rcases setArn_at hi k _ hy with ⟨rfl, e⟩ | ⟨hk, hy⟩
    · cases o with
      | none => cases e
      | some x =>
        injection e with e
        subst e
        exact List.nodup_nil
    · exact h.nod k y hy
end Go.Proofs.Yteijdcidemajfaa
