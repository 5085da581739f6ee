/- The line by its clocks, plainly. -/
import Derived.Test.YteomldlmdpphaaaDoorKt
import Derived.Test.YteomldlmdpphaaaDoorPpB
namespace Go.Proofs.YteomldlmdpphaaaDoor
open Go.RowKit
set_option linter.unusedVariables false
variable {p : Po}
/-- is the line's request there -/
def Po.t8 (p : Po) : Bool := bits .and .i64 p.rq 8 != 0
theorem t8_facts : ∀ x : Int, 0 ≤ x → x ≤ 255 → (bits .and .i64 (bits .or .u8 x 4) 8 != 0) = (bits .and .i64 x 8 != 0) ∧ (bits .and .i64 (bits .or .u8 x 8) 8 != 0) = true ∧ (bits .and .i64 (bits .andNot .u8 x 8) 8 != 0) = false := byteAll (by decide +kernel)
structure Po.Sr (p : Po) (sh li se tr : Int) (t : Bool) : Prop where
  sh : p.sh = sh
  li : p.li = li
  se : p.se = se
  tr : p.tr = tr
  t8 : p.t8 = t
theorem Po.Sr.passAl {sh li se tr : Int} {t : Bool} (h : p.Sr sh li se tr t) (o : p.Ok) (m : Int) : (p.passAl m).Sr sh li se tr t := by
  unfold Po.passAl
  split
  · exact h
  · split
    · exact ⟨h.sh, h.li, h.se, h.tr, ((t8_facts p.rq o.rq.1 (by have := o.rq.2; omega)).1).trans h.t8⟩
    · exact ⟨h.sh, h.li, h.se, h.tr, h.t8⟩
theorem Po.Sr.count {sh li se tr : Int} {t : Bool} (h : p.Sr sh li se tr t) (m : Int) : (p.count m).Sr sh li se tr t := by
  unfold Po.count Po.tick
  split
  · dsimp only
    split <;> exact ⟨h.sh, h.li, h.se, h.tr, h.t8⟩
  · exact ⟨h.sh, h.li, h.se, h.tr, h.t8⟩
theorem Po.Sr.pass_few {sh li se tr : Int} {t : Bool} (h : p.Sr sh li se tr t) (o : p.Ok) (m : Int) (m0 : 0 < m) (ht : tr = 0 ∨ m < tr) (zs : List Int) : (p.pass m).Sr sh li se (if tr = 0 then 0 else tr - m) t ∧ p.passZ m zs = zs := by
  have h2 := (h.passAl o m).count m
  unfold Po.pass Po.passZ
  generalize (p.passAl m).count m = q at h2
  refine ⟨?_, ?_⟩
  · rw [Po.passTr_few q m (by rw [h2.tr]; exact ht)]
    exact ⟨h2.sh, h2.li, h2.se, by rw [← h2.tr], h2.t8⟩
  · unfold Po.trZ
    have := h2.tr
    split
    · rfl
    · rw [if_neg (by omega)]
theorem Po.Sr.run_few {sh li se : Int} {t : Bool} : ∀ (n : Nat) (p : Po) (zs : List Int) (tr c : Int), c.toNat ≤ n → p.Ok → p.Sr sh li se tr t → 0 ≤ c → (tr = 0 ∨ c < tr) →
    (p.run zs c).1.Sr sh li se (if tr = 0 then 0 else tr - c) t ∧ (p.run zs c).2 = zs := by
  intro n
  induction n with
  | zero =>
    intro p zs tr c hn o h h0 ht
    obtain rfl : c = 0 := by omega
    rw [Po.run_zero]
    have e : (if tr = 0 then 0 else tr - 0) = tr := by split <;> omega
    rw [e]
    exact ⟨h, rfl⟩
  | succ n ih =>
    intro p zs tr c hn o h h0 ht
    by_cases hz : c = 0
    · subst hz
      rw [Po.run_zero]
      have e : (if tr = 0 then 0 else tr - 0) = tr := by split <;> omega
      rw [e]
      exact ⟨h, rfl⟩
    · have b := Po.soon_b o c (by omega)
      rw [Po.run_step o zs c (by omega)]
      generalize p.soon c 3 = m at *
      have hp := h.pass_few o m (by omega) (by omega) zs
      rw [hp.2]
      have g := ih (p.pass m) zs (if tr = 0 then 0 else tr - m) (c - m) (by omega) (o.pass m (by omega) b.2.2) hp.1 (by omega) (by split <;> omega)
      have e2 : (if (if tr = 0 then 0 else tr - m) = 0 then 0 else (if tr = 0 then 0 else tr - m) - (c - m)) = (if tr = 0 then 0 else tr - c) := by
        by_cases e : tr = 0
        · simp [e]
        · rw [if_neg e, if_neg e, if_neg (by omega)]
          omega
      rw [e2] at g
      exact g
theorem soon_one' (o : p.Ok) : p.soon 1 3 = 1 := by
  have b := Po.soon_b o 1 (by decide)
  omega
theorem Po.Sr.last {sh se : Int} {t : Bool} (h : p.Sr sh 129 se 1 t) (o : p.Ok) (zs : List Int) : (p.run zs 1).1.Sr 255 1 0 0 true ∧ (p.run zs 1).2 = sentL zs se := by
  rw [Po.run_step o zs 1 (by decide), soon_one' o]
  show ((p.pass 1).Sr 255 1 0 0 true) ∧ p.passZ 1 zs = _
  have o1 := o.passAl 1 (by decide) (by have := o.al; omega)
  have o2 := Po.Ok.count o1 1
  have h2 := (h.passAl o 1).count 1
  unfold Po.pass Po.passZ
  generalize (p.passAl 1).count 1 = q at h2 o2
  have htr := h2.tr
  refine ⟨?_, ?_⟩
  · unfold Po.passTr
    rw [if_neg (by omega), if_pos (by omega)]
    exact ⟨rfl, by show bits .andNot .u8 q.li 128 = 1; rw [h2.li]; decide, rfl, rfl, (t8_facts q.rq o2.rq.1 (by have := o2.rq.2; omega)).2.1⟩
  · unfold Po.trZ
    rw [if_neg (by omega), if_pos (by omega), h2.se]
theorem run_okc' (o : p.Ok) (zs : List Int) (hz : zs.length ≤ 256) (c : Int) : (p.run zs c).1.Ok ∧ (p.run zs c).2.length ≤ 256 := Po.run_ok c.toNat p zs c (Nat.le_refl _) o hz
/-- the last 256 -/
def lastB (zs : List Int) : List Int := zs.drop (zs.length - 256)
theorem lastB_few (zs : List Int) (h : zs.length ≤ 256) : lastB zs = zs := by unfold lastB; rw [show zs.length - 256 = 0 by omega]; rfl
theorem lastB_len (zs : List Int) : (lastB zs).length = min zs.length 256 := by unfold lastB; simp; omega
theorem lastB_sent (zs : List Int) (x : Int) : sentL (lastB zs) x = lastB (zs ++ [x]) := by
  unfold sentL
  rw [lastB_len]
  by_cases h : zs.length < 256
  · rw [if_neg (by omega), lastB_few zs (by omega), lastB_few _ (by simp; omega)]
  · rw [if_pos (by omega)]
    obtain ⟨k, hk⟩ : ∃ k, zs.length = k + 256 := ⟨zs.length - 256, by omega⟩
    have e1 : lastB zs = zs.drop k := by unfold lastB; rw [hk, Nat.add_sub_cancel]
    have e2 : lastB (zs ++ [x]) = (zs ++ [x]).drop (k + 1) := by
      unfold lastB
      rw [List.length_append, List.length_singleton, hk, show k + 256 + 1 - 256 = k + 1 from by omega]
    rw [e1, e2, List.drop_drop, List.drop_append_of_le_length (by omega)]
/-- a byte is sent -/
theorem send_plain (q : Po) (o : q.Ok) (zs : List Int) (hz : zs.length ≤ 256) (x : Int) (x0 : 0 ≤ x) (x1 : x ≤ 255) (r : Po) (hr : ((q.wr 1 x).wr 2 129).take 3 = r) :
    ((r.run zs 4095).1.t8 = false ∧ (r.run zs 4095).2 = zs) ∧ ((r.run zs 4095).1.run zs 1).1.Sr 255 1 0 0 true ∧ ((r.run zs 4095).1.run zs 1).2 = sentL zs x := by
  have or_ : r.Ok := by rw [← hr]; exact ((o.wr 1 x x0 x1).wr 2 129 (by decide) (by decide)).take 3
  have h : r.Sr x 129 x 4096 false := by
    rw [← hr]
    refine ⟨?_, ?_, ?_, ?_, ?_⟩
    · rfl
    · rfl
    · rfl
    · rfl
    · exact (t8_facts q.rq o.rq.1 (by have := o.rq.2; omega)).2.2
  have g := Po.Sr.run_few 4095 r zs 4096 4095 (by decide) or_ h (by decide) (Or.inr (by decide))
  have ok := run_okc' or_ zs hz 4095
  rw [if_neg (by decide)] at g
  have l := Po.Sr.last (se := x) (t := false) (sh := x) (p := (r.run zs 4095).1) g.1 ok.1 zs
  exact ⟨⟨g.1.t8, g.2⟩, l.1, l.2⟩
/-- a byte that is broken off -/
theorem broke_plain (q : Po) (o : q.Ok) (zs : List Int) (hz : zs.length ≤ 256) (x : Int) (x0 : 0 ≤ x) (x1 : x ≤ 255) (r : Po) (hr : ((q.wr 1 x).wr 2 129).take 3 = r) (k : Int) (k0 : 0 ≤ k) (k1 : k < 4096) :
    (r.run zs k).2 = zs ∧ ∀ s : Po, (r.run zs k).1.wr 2 1 = s → (s.run zs 5000).2 = zs ∧ ∃ sh li se t, (s.run zs 5000).1.Sr sh li se 0 t := by
  have or_ : r.Ok := by rw [← hr]; exact ((o.wr 1 x x0 x1).wr 2 129 (by decide) (by decide)).take 3
  have h : r.Sr x 129 x 4096 false := by
    rw [← hr]
    refine ⟨?_, ?_, ?_, ?_, ?_⟩
    · rfl
    · rfl
    · rfl
    · rfl
    · exact (t8_facts q.rq o.rq.1 (by have := o.rq.2; omega)).2.2
  have g := Po.Sr.run_few k.toNat r zs 4096 k (Nat.le_refl _) or_ h k0 (Or.inr k1)
  have ok := run_okc' or_ zs hz k
  refine ⟨g.2, fun s hs => ?_⟩
  have os : s.Ok := by rw [← hs]; exact ok.1.wr 2 1 (by decide) (by decide)
  have hsr : s.Sr s.sh s.li s.se 0 s.t8 := by
    refine ⟨rfl, rfl, rfl, ?_, rfl⟩
    rw [← hs]
    rfl
  have g2 := Po.Sr.run_few 5000 s zs 0 5000 (by decide) os hsr (by decide) (Or.inl rfl)
  rw [if_pos rfl] at g2
  exact ⟨g2.2, _, _, _, _, g2.1⟩
end Go.Proofs.YteomldlmdpphaaaDoor
