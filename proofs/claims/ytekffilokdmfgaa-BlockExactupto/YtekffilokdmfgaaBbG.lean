/- Block: append that leaves the elder list as it was; a list that its owner marks. -/
import Derived.Test.YtekffilokdmfgaaBkC
import Derived.ArgAppend
import Derived.Lib.AppendZeros
import Derived.Laws.OwnMore
namespace Go.Proofs.Ytekffilokdmfgaa
open Go.RowKit
set_option linter.unusedVariables false
set_option linter.unusedSimpArgs false
variable {w w' W : World}
theorem alloc_size' (w : World) (x : Obj) : (w.alloc x).heap.size = w.heap.size + 1 := by unfold World.alloc; simp
theorem cell_up {W w : World} {b o : Nat} {v : Value} (u : Up W w) (h : W.cell? ⟨b, o, none⟩ = some v) : w.cell? ⟨b, o, none⟩ = some v := (u.cell (World.block_lt_of_cell? _ _ h)).trans h
theorem Byts.lb {v : Value} {a : Option Addr} {b o n c : Nat} {f : Nat → Int} (h : Byts w a b o n c f) : Lb w (.slice a n c) n f := ⟨a, b, o, c, rfl, h.lc, h.cm, h.ad, h.cell⟩
theorem same_yesB {a1 a2 : Option Addr} {n b1 o1 c1 b2 o2 c2 : Nat} {f1 f2 : Nat → Int} (h1 : Byts W a1 b1 o1 n c1 f1) (h2 : Byts W a2 b2 o2 n c2 f2) (he : ∀ k, k < n → f1 k = f2 k) : Calls Try.prog 14 #[.slice a1 n c1, .slice a2 n c2] W fun e w' => e = .returned (.bool true) ∧ Up W w' := same_yes (h1.lb (v := .slice none 0 0)) ((h2.lb (v := .slice none 0 0)).congr fun k hk => (he k hk).symm)
theorem own_none (w : World) (base : Nat) (ty : TypeId) : w.ownsRow base ty 1 (.slice none 0 0) 0 [] := ⟨rfl, Or.inl ⟨rfl, rfl⟩⟩
theorem one_cell (w : World) (x : Int) : ∀ j u, ([.int .u8 x] : List Value)[j]? = some u → (w.alloc (.cells #[.int .u8 x] 5)).cell? ((⟨w.heap.size, 0, none⟩ : Addr).add j) = some u := by
  intro j u h
  match j, h with
  | 0, h =>
    simp at h
    subst h
    rw [Addr.add_lit]
    exact heap_cell (heap_alloc_new w _) rfl
  | j + 1, h => simp at h
theorem own_base {b b' n : Nat} {ty : TypeId} {v : Value} {xs : List Value} (h : w.ownsRow b ty 1 v n xs) (hb : b' ≤ b) : w.ownsRow b' ty 1 v n xs :=
  ⟨h.1, h.2.imp id fun ⟨g, cap, cur, hv, hq, r⟩ => ⟨g, cap, cur, hv, Nat.le_trans hb hq, r⟩⟩
theorem grown_upB {n size : Nat} {ty : TypeId} {v : Value} {xs : List Value} {w1 : World} (u : Up W w) (h : w.ownsRow W.heap.size ty size v n xs) (g : w.grownBy w1 v.ownBlock) : Up W w1 := by
  refine ⟨g.os.trans u.os, g.output.trans u.output, Nat.le_trans u.size g.size, fun k hk => ?_⟩
  refine (g.block k (Nat.lt_of_lt_of_le hk u.size) (fun e => ?_)).trans (u.block k hk)
  rcases h.2 with ⟨hv, _⟩ | ⟨g', cap, cur, hv, hb, _⟩
  · rw [hv] at e
    cases e
  · rw [hv] at e
    have : some k = some g' := e
    cases this
    omega
/-- append to a list of one's own: the elder one still reads as it did -/
theorem app_keep {base n m c : Nat} {v : Value} {xs news : List Value} {ad : Addr} (hown : w.ownsRow base 5 1 v n xs) (hl : news.length = m) (hnews : ∀ j u, news[j]? = some u → w.cell? (ad.add j) = some u) (h1 : ∀ u ∈ news, u.oneCell' = true) (hm : 1 ≤ m) (hb : n + m ≤ 4194304) (hbase : base ≤ w.heap.size) :
    ∃ v' w', (Builtin.append_ #[25, 25] 25 #[v, .slice (some ad) m c]).run Try.prog w = .ok v' w' ∧ w'.ownsRow base 5 1 v' (n + m) (xs ++ news) ∧ w'.ownsRow base 5 1 v n xs ∧ w.grownBy w' v.ownBlock ∧ (v'.ownBlock = v.ownBlock ∨ v'.ownBlock = some w.heap.size) ∧ (Up w w' ∨ ∃ g o, w' = w.setCells g o news) := by
  obtain ⟨v', w', hr, h2, h3, _, h5⟩ := run_append_own_at (P := Try.prog) w base 25 25 5 Try.t5 (.int .u8 0) 1 1 Try.underlying25 (by kernel_rfl) (by kernel_rfl) (by kernel_rfl) (by kernel_rfl) rfl (by decide) v n xs hown ad m c news (by rw [Nat.mul_one]; exact hl) hnews h1 (by unfold maxLen; omega) (by omega) hbase
  have hx := hown.1
  suffices q : w'.ownsRow base 5 1 v n xs ∧ (Up w w' ∨ ∃ g o, w' = w.setCells g o news) from ⟨v', w', hr, h2, q.1, h3, h5, q.2⟩
  rcases hown.2 with ⟨rfl, rfl⟩ | ⟨g, cap, cur, rfl, hbg, hg, hnc, hcm, hcs, htake⟩
  · obtain rfl : xs = [] := List.eq_nil_of_length_eq_zero (by simpa using hx)
    exact ⟨World.ownsRow_nil _ _ _ _, Or.inl ⟨h3.os, h3.output, h3.size, fun b hb => h3.block b hb (fun e => by cases e)⟩⟩
  · by_cases hroom : n + m ≤ cap
    · have hr2 := run_append_room_cells (P := Try.prog) w 25 25 5 Try.t5 Try.underlying25 (by kernel_rfl) g 0 n cap ad m c news (by show news.length = m * 1; omega) hnews h1 hroom (fun j hj => by
        show (w.cell? ⟨g, 0 + n * 1 + j, none⟩).isSome = true
        rw [heap_cell hg (Array.getElem?_eq_getElem (show 0 + n * 1 + j < cur.size by omega))]
        rfl) (fun j hj => heap_fz hg)
      rw [hr] at hr2
      injection hr2 with _ hw
      subst hw
      have hs := heap_setCells_same g 5 news (0 + n * 1) cur w hg
      refine ⟨own_of hs hbg hnc hcm ?_ hx (fun k hk => ?_), Or.inr ⟨_, _, rfl⟩⟩
      · rw [putL_size]
        exact hcs
      · rw [putL_at _ _ _ _ (by rw [hcs]; omega), if_neg (by omega)]
        exact own_at htake k hk
    · have holds : ∀ j u, xs[j]? = some u → w.cell? ((⟨g, 0, none⟩ : Addr).add j) = some u := hown.cells (g := g) rfl
      have hr2 := run_append_grow (P := Try.prog) w 25 25 5 Try.t5 (.int .u8 0) Try.underlying25 (by kernel_rfl) (by kernel_rfl) ⟨g, 0, none⟩ n cap xs hx holds ad m c news (by show news.length = m * 1; omega) hnews (by omega) (by omega) (growslice_fits (by omega) (by show (n + m) * 1 ≤ _; omega))
      rw [hr] at hr2
      injection hr2 with _ hw
      subst hw
      exact ⟨ownsRow_up hown (((Up.refl w).drew).alloc _), Or.inl (((Up.refl w).drew).alloc _)⟩
/-- a list full of its mark -/
def rep (m : Int) (n : Nat) : List Value := List.replicate n (.int .u8 m)
theorem rep_len (m : Int) (n : Nat) : (rep m n).length = n := List.length_replicate
theorem rep_add (m : Int) (n k : Nat) : rep m n ++ rep m k = rep m (n + k) := List.replicate_append_replicate
theorem rep_take (m : Int) (n k : Nat) (h : n ≤ k) : (rep m k).take n = rep m n := by unfold rep; rw [List.take_replicate, Nat.min_eq_left h]
/-- a list that reads as its mark -/
def RdM (m : Int) (w : World) (v : Value) (n : Nat) : Prop := ∃ a c, v = .slice a n c ∧ n ≤ c ∧ c ≤ maxLen ∧ (0 < n → ∃ g o, a = some ⟨g, o, none⟩ ∧ ∀ k, k < n → w.cell? ⟨g, o + k, none⟩ = some (.int .u8 m))
theorem RdM.up {m : Int} {v : Value} {n : Nat} (h : RdM m w v n) (u : Up w w') : RdM m w' v n := by
  obtain ⟨a, c, e, h1, h2, h3⟩ := h
  refine ⟨a, c, e, h1, h2, fun h0 => ?_⟩
  obtain ⟨g, o, e2, h4⟩ := h3 h0
  exact ⟨g, o, e2, fun k hk => cell_up u (h4 k hk)⟩
theorem cell_setCells {g o : Nat} {m : Int} {j : Nat} (b p : Nat) (h : w.cell? ⟨b, p, none⟩ = some (.int .u8 m)) : (w.setCells g o (rep m j)).cell? ⟨b, p, none⟩ = some (.int .u8 m) := by
  by_cases e : b = g
  · subst e
    induction j generalizing w o with
    | zero => exact h
    | succ j ih =>
      show ((w.setCell ⟨b, o, none⟩ (.int .u8 m)).setCells b (o + 1) (rep m j)).cell? ⟨b, p, none⟩ = _
      refine ih ?_
      by_cases ep : p = o
      · subst ep
        exact World.cell?_setCell_same _ _ _ h
      · exact (World.cell?_setCell_other _ _ _ _ (fun q => ep (by injection q with _ q _; exact q.symm))).trans h
  · exact ((fr_setCells g (rep m j) o w).cell (World.block_lt_of_cell? _ _ h) e).trans h
theorem RdM.set {m : Int} {v : Value} {n g o j : Nat} (h : RdM m w v n) : RdM m (w.setCells g o (rep m j)) v n := by
  obtain ⟨a, c, e, h1, h2, h3⟩ := h
  refine ⟨a, c, e, h1, h2, fun h0 => ?_⟩
  obtain ⟨g', o', e2, h4⟩ := h3 h0
  exact ⟨g', o', e2, fun k hk => cell_setCells _ _ (h4 k hk)⟩
theorem own_same {base : Nat} {m : Int} {v u : Value} {n N : Nat} (hv : w.ownsRow base 5 1 v n (rep m n)) (hu : w.ownsRow base 5 1 u N (rep m N)) (hb : v.ownBlock = u.ownBlock) (hN : n ≤ N) (hu2 : w'.ownsRow base 5 1 u N (rep m N)) : w'.ownsRow base 5 1 v n (rep m n) := by
  rcases hv.2 with ⟨rfl, rfl⟩ | ⟨g, cap, cur, rfl, hbg, hg, hnc, hcm, hcs, htk⟩
  · exact World.ownsRow_nil _ _ _ _
  · rcases hu.2 with ⟨rfl, _⟩ | ⟨g2, cap2, cur2, rfl, hbg2, hg2, hnc2, hcm2, hcs2, htk2⟩
    · cases hb
    · injection hb with hb
      have hb : g = g2 := hb
      subst hb
      rw [hg] at hg2
      injection hg2 with hg2
      injection hg2 with hg2
      subst hg2
      rcases hu2.2 with ⟨h, _⟩ | ⟨g3, cap3, cur3, h, hbg3, hg3, hnc3, hcm3, hcs3, htk3⟩
      · cases h
      · injection h with h1 _ h3
        injection h1 with h1
        injection h1 with h1 _
        subst h1 h3
        refine ⟨hv.1, Or.inr ⟨g, cap, cur3, rfl, hbg, hg3, hnc, hcm, by omega, ?_⟩⟩
        have : cur3.toList.take (n * 1) = (cur3.toList.take (N * 1)).take (n * 1) := by rw [List.take_take, Nat.min_eq_left (by omega)]
        rw [this, htk3, Nat.mul_one, rep_take m n N hN]
theorem own_keep {base n : Nat} {ty : TypeId} {v : Value} {xs : List Value} (h : w.ownsRow base ty 1 v n xs) (hk : ∀ g, v.ownBlock = some g → w'.heap[g]? = w.heap[g]?) : w'.ownsRow base ty 1 v n xs := by
  refine ⟨h.1, h.2.imp (fun h => h) fun ⟨g, cap, cur, q⟩ => ⟨g, cap, cur, q.1, q.2.1, ?_, q.2.2.2⟩⟩
  rw [hk g (by rw [q.1]; rfl)]
  exact q.2.2.1
/-- a marked list v and one that has grown out of it by k -/
structure Gn (base : Nat) (m : Int) (W : World) (v : Value) (n : Nat) (k : Nat) (u : Value) (w : World) : Prop where
  ov : w.ownsRow base 5 1 v n (rep m n)
  ou : w.ownsRow base 5 1 u (n + k) (rep m (n + k))
  os : w.os = W.os
  output : w.output = W.output
  size : W.heap.size ≤ w.heap.size
  block : ∀ b, b < W.heap.size → v.ownBlock ≠ some b → w.heap[b]? = W.heap[b]?
  loc : u.ownBlock = v.ownBlock ∨ ∃ b, W.heap.size ≤ b ∧ u.ownBlock = some b
  rd : ∀ a na, RdM m W a na → RdM m w a na
variable {base n k : Nat} {m : Int} {v u : Value}
theorem Gn.start (h : W.ownsRow base 5 1 v n (rep m n)) : Gn base m W v n 0 v W := ⟨h, h, rfl, rfl, Nat.le_refl _, fun _ _ _ => rfl, Or.inl rfl, fun _ _ h => h⟩
theorem Gn.up (h : Gn base m W v n k u w) (q : Up w w') : Gn base m W v n k u w' := ⟨ownsRow_up h.ov q, ownsRow_up h.ou q, q.os.trans h.os, q.output.trans h.output, Nat.le_trans h.size q.size, fun b hb hv => (q.block b (Nat.lt_of_lt_of_le hb h.size)).trans (h.block b hb hv), h.loc, fun a na ha => (h.rd a na ha).up q⟩
theorem Gn.step {j c : Nat} {ad : Addr} (h : Gn base m W v n k u w) (hnews : ∀ i x, (rep m j)[i]? = some x → w.cell? (ad.add i) = some x) (hj : 1 ≤ j) (hb : n + k + j ≤ 4194304) (hbase : base ≤ W.heap.size) :
    ∃ u' w', (Builtin.append_ #[25, 25] 25 #[u, .slice (some ad) j c]).run Try.prog w = .ok u' w' ∧ Gn base m W v n (k + j) u' w' := by
  obtain ⟨u', w', hr, h2, h3, h4, h5, h6⟩ := app_keep (c := c) h.ou (rep_len m j) hnews (fun x hx => by rw [List.eq_of_mem_replicate hx]; rfl) hj hb (Nat.le_trans hbase h.size)
  refine ⟨u', w', hr, ?_, ?_, h4.os.trans h.os, h4.output.trans h.output, Nat.le_trans h.size h4.size, fun b hb hv => ?_, ?_, fun a na ha => ?_⟩
  · by_cases e : v.ownBlock = u.ownBlock
    · exact own_same h.ov h.ou e (by omega) h3
    · refine own_keep h.ov (fun g hg => h4.block g (h.ov.lt g hg).2 (fun q => e (hg.trans q)))
  · rw [rep_add] at h2
    rw [← Nat.add_assoc]
    exact h2
  · refine (h4.block b (Nat.lt_of_lt_of_le hb h.size) (fun q => ?_)).trans (h.block b hb hv)
    rcases h.loc with e | ⟨b', hb', e⟩
    · exact hv (e ▸ q.symm)
    · rw [e] at q
      injection q with q
      omega
  · rcases h5 with e | e
    · rw [e]; exact h.loc
    · exact Or.inr ⟨_, h.size, e⟩
  · rcases h6 with q | ⟨g, o, rfl⟩
    · exact (h.rd a na ha).up q
    · exact (h.rd a na ha).set
theorem rep_new (w : World) (m : Int) : ∀ i x, (rep m 1)[i]? = some x → (w.alloc (.cells #[.int .u8 m] 5)).cell? ((⟨w.heap.size, 0, none⟩ : Addr).add i) = some x := one_cell w m
theorem own_val {w : World} (h : w.ownsRow base 5 1 v n (rep m n)) : ∃ a c, v = .slice a n c ∧ n ≤ c ∧ c ≤ maxLen := by
  rcases h.2 with ⟨rfl, rfl⟩ | ⟨g, cap, cur, rfl, _, _, h1, h2, _⟩
  · exact ⟨_, _, rfl, Nat.le_refl _, Nat.zero_le _⟩
  · exact ⟨_, _, rfl, h1, h2⟩
set_option maxRecDepth 100000 in
set_option maxHeartbeats 1000000 in
/-- grown: sixty more -/
theorem grown_any (h : W.ownsRow base 5 1 v n (rep m n)) (hn : n ≤ 4000000) (hbase : base ≤ W.heap.size) : Calls Try.prog 43 #[v, .int .u8 m] W fun e w' => ∃ u, e = .returned u ∧ Gn base m W v n 60 u w' := by
  have HG : Hid (Gn base m W v n 0 v W) := Gn.start h
  clear h
  go_enter Try.func43, Try.ntmps43
  go_wp2_with fail
  go_loopw [5, 6] (fun U I wr => ∃ i : Nat, i ≤ 60 ∧ I = .int .i64 (i : Int) ∧ Hid (Gn base m W v n i U wr)) (fun _ I _ => 60 - (intOf I).toNat)
  case atStart => exact ⟨0, Nat.zero_le _, rfl, HG⟩
  case round =>
    clear HG
    obtain ⟨i, hi, rfl, HI⟩ := hrel
    by_cases hlt : i < 60
    · have e1 : (i : Int) < 60 := by omega
      obtain ⟨u', w', hr, hg⟩ := (HI.out.up ((Up.refl wr).alloc (.cells #[.int .u8 m] 5))).step (j := 1) (c := 1) (rep_new wr m) (by decide) (by omega) hbase
      have HR : Hid _ := hr
      have HN : Hid (Gn base m W v n (i + 1) u' w') := hg
      clear hr hg HI
      go_wp2_with (at_builtin; refine Lib.wpList_append_run _ rfl _ _ _ _ rfl _ _ rfl rfl _ _ HR.out ?_)
      refine ⟨⟨i + 1, by omega, by go_num, HN⟩, ?_⟩
      simp [intOf]; omega
    · have e1 : ¬ (i : Int) < 60 := by omega
      obtain rfl : i = 60 := by omega
      go_wp2_with fail
      go_ret
      exact ⟨_, by first | rfl | (simp; done), HI.out⟩
end Go.Proofs.Ytekffilokdmfgaa
