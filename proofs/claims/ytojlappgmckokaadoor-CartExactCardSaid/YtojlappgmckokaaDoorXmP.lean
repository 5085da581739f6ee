import Derived.Test.YtojlappgmckokaaDoorXmG
import Derived.Lib.AppendZerosOnto
import Derived.ArgAppend
import Derived.Test.YtojlappgmckokaaDoorXmO
import Derived.Deep.CutRange
/- Cart: zeros behind a list of one's own. -/
namespace Go.Proofs.YtojlappgmckokaaDoor
open Go.Shelf Go.RowKit
set_option linter.unusedVariables false
set_option linter.unusedSimpArgs false
variable {w w' W : World} {base n : Nat} {f : Nat → Int} {v u : Value}
def zerF (n : Nat) (f : Nat → Int) (j : Nat) : Int := if j < n then f j else 0
theorem byL_zer (n k : Nat) (f : Nat → Int) : byL f n ++ rep 0 k = byL (zerF n f) (n + k) := by
  refine List.ext_getElem? fun j => ?_
  by_cases h1 : j < n
  · rw [List.getElem?_append_left (by rw [byL_len]; exact h1), byL_at h1, byL_at (by omega)]
    unfold zerF
    rw [if_pos h1]
  · rw [List.getElem?_append_right (by rw [byL_len]; omega), byL_len]
    by_cases h2 : j < n + k
    · rw [byL_at h2]
      unfold rep zerF
      rw [List.getElem?_replicate, if_pos (by omega), if_neg h1]
    · rw [List.getElem?_eq_none (by unfold rep; simp; omega), List.getElem?_eq_none (by rw [byL_len]; omega)]
theorem setCells_tape (b : Nat) : ∀ (vs : List Value) (o : Nat) (w : World), (w.setCells b o vs).tape = w.tape
  | [], _, _ => rfl
  | v :: r, o, w => (setCells_tape b r (o + 1) (w.setCell ⟨b, o, none⟩ v)).trans rfl
theorem zero_rep (k : Nat) : Builtin.zeroCells #[.int .u8 0] k = (rep 0 k).toArray := by
  refine Array.ext_getElem? fun j => ?_
  unfold Builtin.zeroCells rep
  by_cases h : j < k
  · simp [h, Nat.mod_one]
  · simp [h]
theorem own_zeros {k : Nat} (h : w.ownsRow base 5 1 v n (byL f n)) (hk : k = 0 ∨ k = 1 ∨ k = 2) (hn : n ≤ 4100000) (hb : base ≤ w.heap.size) : ∃ v' w', (Builtin.append_ #[24, 3] 24 #[v, .int .i64 (k : Int)]).run Tryd.prog w = .ok v' w' ∧ w'.ownsRow base 5 1 v' (n + k) (byL (zerF n f) (n + k)) ∧ w.grownBy w' v.ownBlock := by
  have hi : Tryd.prog.info? 5 = some Tryd.t5 := by kernel_rfl
  have ht : Tryd.prog.underlying 24 = some (.slice 5) := Tryd.underlying24
  have htn : Tryd.prog.underlying 3 = some (.int .i64) := Tryd.underlying3
  have hz : Tryd.t5.zero = some (.int .u8 0) := by kernel_rfl
  have hs1 : Tryd.t5.size = 1 := by kernel_rfl
  have hb1 : Tryd.t5.bytes = 1 := by kernel_rfl
  have hw : IntKind.i64.wrap (k : Int) = k := by rw [IntKind.wrap_i64]; omega
  have hneg : ¬ ((k : Int) < 0) := by omega
  have h48 : ¬ (281474976710656 < (k : Int)) := by omega
  have zc : Builtin.zeroCells #[.int .u8 0] k = (rep 0 k).toArray := zero_rep k
  have zv : ∀ k', (Builtin.zeroCells #[.int .u8 0] k').size = k' := fun k' => by rw [size_zeroCells]; simp
  have hx := h.1
  rw [byL_len] at hx
  -- what the growing arm leaves
  have grown : ∀ (old : Nat), old < n + k → ∀ (row : Option Nat),
      (w.drew.alloc (.cells ((byL f n).toArray ++ Builtin.zeroCells #[.int .u8 0] k ++ Builtin.zeroCells #[.int .u8 0] (grownCap w (n + k) old 5 - (n + k))) 5)).ownsRow base 5 1
        (.slice (some ⟨w.heap.size, 0, none⟩) (n + k) (grownCap w (n + k) old 5)) (n + k) (byL (zerF n f) (n + k)) ∧
      w.grownBy (w.drew.alloc (.cells ((byL f n).toArray ++ Builtin.zeroCells #[.int .u8 0] k ++ Builtin.zeroCells #[.int .u8 0] (grownCap w (n + k) old 5 - (n + k))) 5)) row := by
    intro old ho row
    have hge := grownCap_ge w (n + k) old 5
    have hcm : grownCap w (n + k) old 5 ≤ maxLen := grownCap_le_maxLen w (n + k) old 5 (by unfold maxLen; omega)
    refine ⟨⟨by rw [byL_len, Nat.mul_one], .inr ⟨w.heap.size, _, _, rfl, hb, heap_alloc_new w.drew _, hge, hcm, ?_, ?_⟩⟩, ⟨rfl, rfl, rfl, by simp, fun j hj _ => Below.heap_alloc w.drew _ _ hj⟩⟩
    · simp only [Array.size_append, List.size_toArray, zv, byL_len]
      omega
    · rw [zc, ← byL_zer n k f]
      simp only [Array.toList_append, List.append_assoc]
      rw [← List.append_assoc]
      have : ((byL f n) ++ (rep 0 k)).length = (n + k) * 1 := by rw [List.length_append, byL_len, rep_len, Nat.mul_one]
      rw [← this]
      exact List.take_left
  have hw0 : IntKind.i64.wrap 0 = 0 := by rw [IntKind.wrap_i64]; rfl
  by_cases h0 : k = 0
  · subst h0
    refine ⟨v, w, ?_, ?_, ⟨rfl, rfl, rfl, Nat.le_refl _, fun _ _ _ => rfl⟩⟩
    · rcases own_cases h with ⟨rfl, rfl, _⟩ | ⟨g, cap, rfl, h1, h2, h3, h4⟩
      · simp [Builtin.append_, run_underlying ht, run_underlying htn, sizeOf, typeInfo, zeroValue, hi, hz, asInt, asIntOf, hw0, hs1, hb1]
      · simp [Builtin.append_, run_underlying ht, run_underlying htn, sizeOf, typeInfo, zeroValue, hi, hz, asInt, asIntOf, hw0, hs1, hb1, h1, storeCells]
    · have e := byL_zer n 0 f
      rw [show rep 0 0 = [] from rfl, List.append_nil] at e
      rw [Nat.add_zero] at e ⊢
      rw [← e]
      exact h
  have hk1 : 1 ≤ k ∧ k ≤ 2 := by omega
  rcases own_cases h with ⟨rfl, rfl, _⟩ | ⟨g, cap, rfl, h1, h2, h3, h4⟩
  · have hr := Go.Lib.run_append_nil_zeros (P := Tryd.prog) w 24 3 24 5 Tryd.t5 (.int .u8 0) .i64 .i64 ht htn hi hz k (by omega) (by rw [hs1]; decide) (by omega) (by rw [hb1]; omega)
    have hgr := grown 0 (by omega) (Value.ownBlock (.slice none 0 0))
    have hz2 : (Value.int .u8 0).cells = #[.int .u8 0] := rfl
    rw [hz2] at hr
    rw [Nat.zero_add, show (byL f 0).toArray = #[] from rfl, Array.empty_append] at hgr
    rw [Nat.zero_add]
    exact ⟨_, _, hr, hgr.1, hgr.2⟩
  · by_cases hroom : n + k ≤ cap
    · obtain ⟨cur, hg, hbg, hc, hm, hs, ht2⟩ := own_open h
      have hst := run_storeCells_cells (P := Tryd.prog) g n (rep 0 k) 0 w (fun j hj => by
        rw [rep_len] at hj
        show (w.cell? ⟨g, n + 0 + j, none⟩).isSome = true
        rw [heap_cell hg (Array.getElem?_eq_getElem (show n + 0 + j < cur.size by omega))]
        rfl) (fun j hj => heap_fz hg) (fun x hx => by rw [List.eq_of_mem_replicate hx]; rfl)
      simp only [Nat.add_zero] at hst
      refine ⟨.slice (some ⟨g, 0, none⟩) (n + k) cap, w.setCells g n (rep 0 k), ?_, ?_, ?_⟩
      · simp [Builtin.append_, run_underlying ht, run_underlying htn, sizeOf, typeInfo, zeroValue, hi, hz, asInt, asIntOf, hw, hneg, h48, hs1, hb1, h0, hroom, zc, Addr.add_lit, hst, Value.cells]
      · have hh := heap_setCells_same g 5 (rep 0 k) n cur w hg
        refine own_of hh hbg hroom hm (by rw [putL_size]; exact hs) (by rw [byL_len, Nat.mul_one]) (fun t ht3 => ?_)
        rw [putL_at _ _ _ _ (by rw [rep_len]; omega), rep_len, byL_at (by omega)]
        unfold zerF
        by_cases h5 : t < n
        · rw [if_neg (by omega), if_pos h5, own_at ht2.1 t (by omega)]
          exact byL_at h5
        · rw [if_pos (by omega), if_neg h5]
          unfold rep
          rw [List.getElem?_replicate, if_pos (by omega)]
      · have fr := fr_setCells g (rep 0 k) n w
        exact ⟨fr.os, setCells_tape _ _ _ _, fr.output, fr.size, fun b hb2 hne => fr.block b hb2 (fun e => hne (by rw [e]; rfl))⟩
    · have hold : (Builtin.firstCells Tryd.t5.size n (.slice (some ⟨g, 0, none⟩) n cap)).run Tryd.prog w.drew = .ok (byL f n).toArray w.drew :=
        run_firstCells_some (P := Tryd.prog) w.drew Tryd.t5.size n ⟨g, 0, none⟩ n cap (byL f n) (by rw [byL_len, hs1, Nat.mul_one]) (h.cells (g := g) rfl)
      have hr := Go.Lib.run_append_grow_zeros (P := Tryd.prog) w 24 3 24 5 Tryd.t5 (.int .u8 0) .i64 .i64 ht htn hi hz (some ⟨g, 0, none⟩) n cap (byL f n) hold k (by omega) (by rw [hs1]; decide) (by omega) (by omega) (by rw [hb1]; omega) (by rw [hb1]; exact growslice_fits (by omega) (by omega))
      have hgr := grown cap (by omega) (Value.ownBlock (.slice (some ⟨g, 0, none⟩) n cap))
      exact ⟨_, _, hr, hgr.1, hgr.2⟩
end Go.Proofs.YtojlappgmckokaaDoor
/- Cart: steps of a pair: Load. -/
namespace Go.Proofs.YtojlappgmckokaaDoor
open Go.Shelf Go.RowKit
set_option linter.unusedVariables false
set_option linter.unusedSimpArgs false
variable {w w' W : World} {pb lo hi n H ob : Nat} {Q : Qk} {A : Ad} {Y : Yd} {C D C' D' : Ct} {S : Nat → Prop} {L : Bd} {f hf : Nat → Int} {v u : Value} {a b c kd : Int}
theorem want_runB {aa : Option Addr} {ab ao cap : Nat} (h : Byts w aa ab ao n cap f) (h0 : aa = none → cap = 0) (hn : n ≤ 4000000) : ∃ u w', (Builtin.append_ #[24, 24] 24 #[.slice (some ⟨w.heap.size, 0, none⟩) 0 0, .slice aa n cap]).run Tryd.prog (w.alloc (.cells #[] 5)) = .ok u w' ∧ w'.ownsRow w.heap.size 5 1 u n (byL f n) ∧ Up w w' := by
  have sz : (w.alloc (.cells #[] 5)).heap.size = w.heap.size + 1 := alloc_size' _ _
  have ho : (w.alloc (.cells #[] 5)).ownsRow w.heap.size 5 1 (.slice (some ⟨w.heap.size, 0, none⟩) 0 0) 0 [] := own_of (heap_alloc_new w _) (Nat.le_refl _) (Nat.le_refl _) (Nat.zero_le _) rfl rfl (fun k hk => by omega)
  have h1 := h.upB ((Up.refl w).alloc (.cells #[] 5))
  rcases aa with _ | ad
  · obtain rfl := h0 rfl
    have := h.lc
    obtain rfl : n = 0 := by omega
    exact ⟨_, _, run_append_owned_none (P := Tryd.prog) (w := w.alloc (.cells #[] 5)) w.heap.size 24 24 5 Tryd.t5 1 Tryd.underlying24 (by kernel_rfl) _ 0 [] ho, ho, (Up.refl w).alloc _⟩
  · obtain ⟨v', w', hr, h2, h3, _, h5⟩ := run_append_own_at (P := Tryd.prog) _ w.heap.size 24 24 5 Tryd.t5 (.int .u8 0) 1 1 Tryd.underlying24 (by kernel_rfl) (by kernel_rfl) (by kernel_rfl) (by kernel_rfl) rfl (by decide) _ 0 [] ho ad n cap (byL f n) (by rw [byL_len, Nat.mul_one]) (fun j u hj => by
      have hjn : j < n := by have := (List.getElem?_eq_some_iff.1 hj).1; rwa [byL_len] at this
      have e := h.ad (by omega)
      injection e with e
      rw [e, Addr.add_lit, h1.cell j hjn]
      rw [byL_at hjn] at hj
      exact hj) (byL_one f n) (by unfold maxLen; omega) (by omega) (by omega)
    rw [Nat.zero_add, List.nil_append] at h2
    exact ⟨v', w', hr, h2, grown_upB ((Up.refl w).alloc _) ho h3⟩
/-- the state that is loaded, while it is being made -/
def Ms (N : Nat) (w0 w : World) (v : Value) : Prop := Up w0 w ∧ ∃ n f, w.ownsRow w0.heap.size 5 1 v n (byL f n) ∧ n ≤ N ∧ (∀ k, 0 ≤ f k ∧ f k ≤ 255)
theorem own_set {g c base j : Nat} (h : w.ownsRow base 5 1 (.slice (some ⟨g, 0, none⟩) n c) n (byL f n)) (hj : j < n) (x : Int) : (w.setCell ⟨g, j, none⟩ (.int .u8 x)).ownsRow base 5 1 (.slice (some ⟨g, 0, none⟩) n c) n (byL (putF f j 1 (fun _ => x)) n) := by
  obtain ⟨cur, hg, hb, hc, hm, hs, ht⟩ := own_open h
  refine own_of (heap_setCell_same w g j _ _ _ hg) hb hc hm (by rw [Array.size_setIfInBounds]; exact hs) (by rw [byL_len, Nat.mul_one]) (fun t ht2 => ?_)
  rw [Array.getElem?_setIfInBounds, byL_at (by omega)]
  unfold putF
  by_cases e : j = t
  · subst e
    rw [if_pos rfl, if_pos (by omega), if_pos (by omega)]
  · rw [if_neg e, if_neg (by omega), own_at ht.1 t ht2]
    exact byL_at (by omega)
theorem pickI_nat {c : Int} {n : Nat} (hc : I64 c) (hn : 0 < n) (hn2 : n ≤ 1099511627776) : ∃ J : Nat, pickI c (n : Int) = (J : Int) ∧ J < n ∧ 0 ≤ (J : Int) := by
  have h : 0 ≤ pickI c (n : Int) ∧ pickI c (n : Int) < n := by
    unfold pickI
    split
    · exact ⟨Int.emod_nonneg _ (by omega), Int.emod_lt_of_pos _ (by omega)⟩
    · exact ⟨Int.emod_nonneg _ (by omega), Int.emod_lt_of_pos _ (by omega)⟩
  exact ⟨(pickI c n).toNat, by omega, by omega, by omega⟩
theorem Ms.up {N : Nat} {w0 : World} (h : Ms N w0 w v) (u : Up w w') : Ms N w0 w' v := ⟨h.1.trans u, by obtain ⟨n, f, o, h1, h2⟩ := h.2; exact ⟨n, f, ownsRow_up o u, h1, h2⟩⟩
theorem wrap8 (b : Int) : 0 ≤ IntKind.u8.wrap b ∧ IntKind.u8.wrap b ≤ 255 := by
  have : IntKind.u8.wrap b = b % 256 := by first | rfl | simp [IntKind.wrap] | (rw [IntKind.wrap_u8])
  omega
theorem Ms.set {w0 : World} (h : Ms 4000000 w0 w v) {n : Nat} {a : Option Addr} {c : Nat} (hv : v = .slice a n c) (h0 : 0 < n) : ∃ g gc, v = .slice (some ⟨g, 0, none⟩) n gc ∧ n ≤ gc ∧ gc ≤ maxLen ∧ w0.heap.size ≤ g ∧ ∀ j, j < n → ∀ x, 0 ≤ x → x ≤ 255 → (∃ y, w.cell? ⟨g, j, none⟩ = some y) ∧ w.frozen? ⟨g, j, none⟩ = false ∧ Ms 4000000 w0 (w.setCell ⟨g, j, none⟩ (.int .u8 x)) v := by
  subst hv
  obtain ⟨u, m, f, o, hm, h8⟩ := h
  obtain rfl : m = n := by
    rcases own_cases o with ⟨e, e2, _⟩ | ⟨g, cap, e, _⟩
    · injection e with _ e; omega
    · injection e with _ e; exact e.symm
  rcases own_cases o with ⟨_, e2, _⟩ | ⟨g, cap, e, h1, h2, h3, h4⟩
  · omega
  injection e with e1 _ e2
  subst e1 e2
  refine ⟨g, _, rfl, h1, h2, (o.lt g rfl).1, fun j hj x x0 x1 => ?_⟩
  have k := (own_by o).cell j hj
  refine ⟨⟨_, k⟩, (own_by o).fz j, u.setCell (o.lt g rfl).1 _, m, _, own_set o hj x, hm, fun t => ?_⟩
  unfold putF
  split
  · exact ⟨x0, x1⟩
  · exact h8 t
theorem Ms.zeros {N k : Nat} {w0 : World} (h : Ms N w0 w v) (hk : k < 3) (hN : N ≤ 4000000) : ∃ v' w', (Builtin.append_ #[24, 3] 24 #[v, .int .i64 (k : Int)]).run Tryd.prog w = .ok v' w' ∧ Ms (N + 2) w0 w' v' ∧ ∃ a n c, v' = .slice a n c := by
  obtain ⟨u, n, f, o, hn, h8⟩ := h
  obtain ⟨v', w', hr, o2, g⟩ := own_zeros (k := k) o (by omega) (by omega) u.size
  refine ⟨v', w', hr, ⟨grown_upB u o g, n + k, _, o2, by omega, fun j => ?_⟩, own_slice3 o2⟩
  unfold zerF
  split
  · exact h8 j
  · exact ⟨Int.le_refl _, by decide⟩
theorem Ms.wide {N M : Nat} {w0 : World} (h : Ms N w0 w v) (hM : N ≤ M) : Ms M w0 w v := ⟨h.1, by obtain ⟨n, f, o, h1, h2⟩ := h.2; exact ⟨n, f, o, by omega, h2⟩⟩
theorem Ms.cut {N n m c : Nat} {a : Option Addr} {w0 : World} (h : Ms N w0 w (.slice a n c)) (hm : m ≤ n) : Ms N w0 w (.slice a m c) := by
  obtain ⟨u, k, f, o, hk, h8⟩ := h
  rcases own_cases o with ⟨e, e2, _⟩ | ⟨g, cap, e, h1, h2, h3, h4⟩
  · injection e with e1 e3 e4
    subst e1 e3 e4
    obtain rfl : m = 0 := by omega
    exact ⟨u, 0, f, World.ownsRow_nil _ _ _ _, by omega, h8⟩
  · injection e with e1 e3 e4
    subst e1 e3 e4
    obtain ⟨cur, hg, hb, hc, hm2, hs, ht⟩ := own_open o
    exact ⟨u, m, f, own_of hg hb (by omega) hm2 hs (by rw [byL_len, Nat.mul_one]) (fun t ht2 => by rw [own_at ht.1 t (by omega), byL_at (by omega), byL_at (by omega)]), by omega, h8⟩
theorem Ms.open {N n c : Nat} {a : Option Addr} {w0 : World} (h : Ms N w0 w (.slice a n c)) : Up w0 w ∧ n ≤ N ∧ ∃ f, w.ownsRow w0.heap.size 5 1 (.slice a n c) n (byL f n) ∧ (∀ k, 0 ≤ f k ∧ f k ≤ 255) ∧ n ≤ c ∧ c ≤ maxLen := by
  obtain ⟨u, k, f, o, hk, h8⟩ := h
  rcases own_cases o with ⟨e, e2, _⟩ | ⟨g, cap, e, h1, h2, h3, h4⟩
  · injection e with e1 e3 e4
    subst e1 e3 e4 e2
    exact ⟨u, hk, f, o, h8, Nat.le_refl _, Nat.zero_le _⟩
  · injection e with e1 e3 e4
    subst e1 e3 e4
    exact ⟨u, hk, f, o, h8, h1, h2⟩
theorem Byts.ltB {a : Option Addr} {b o c : Nat} (h : Byts w a b o n c f) (k : 0 < n) : b < w.heap.size := World.block_lt_of_cell? _ _ (h.cell 0 k)
theorem Pw.frF {l : Nat} (h : Pw W Q pb lo hi A Y C D S L H hf w) (fr : Fr l w w') (h1 : pb < l) (h2 : ¬ Al S L l ∧ L.x2.ownBlock ≠ some l ∧ ¬ Q.K l) : Pw W Q pb lo hi A Y C D S L H hf w' := by
  have q : FK (fun b => b ≠ l) w w' := FK.ofFr fr (fun h => h rfl)
  obtain ⟨l1, l2, l3, l4⟩ := h.lh
  have a1 := h.y1; have a2 := h.y2; have a3 := h.y3
  obtain ⟨a, b, o, n, c, f, e, hy, hn, h0⟩ := h.la
  exact ⟨⟨q.os.trans h.up.os, q.output.trans h.up.output, Nat.le_trans h.up.size q.size, fun b hb => (q.block b (Nat.lt_of_lt_of_le hb h.up.size) (by omega)).trans (h.up.block b hb)⟩, h.wl, h.x.keep q (fun k _ k2 => by omega), h.y.keepK q (by omega) (by omega) (by omega), h.y1, h.y2, h.y3, h.bf.keep q (by omega) (fun b hb e => h2.1 (e ▸ hb)), h.e0, h.e1, ⟨a, b, o, n, c, f, e, hy.keep (fun k => by
    have e2 : L.x2.ownBlock = some b := by rw [e, hy.ad k]; rfl
    exact q.block b (h0 b e2).2.1 (fun e3 => h2.2.1 (e3 ▸ e2))), hn, fun g hg => ⟨(h0 g hg).1, Nat.lt_of_lt_of_le (h0 g hg).2.1 q.size, (h0 g hg).2.2⟩⟩, h.hb, fun b hb => by obtain ⟨k1, k2, k3, k4, k5⟩ := h.kp b hb; exact ⟨k1, Nat.lt_of_lt_of_le k2 q.size, k3, k4, (q.block b k2 (fun e => h2.2.2 (e ▸ hb))).trans k5⟩⟩
theorem loadR_all {n cp ab ao : Nat} {aa : Option Addr} {f : Nat → Int} (h : RtAt w Y C) (hL : Byts w aa ab ao n cp f) (hK : 0 < n → Y.K ab) : Calls Tryd.prog 53 #[.pointer (some ⟨Y.yb, 0, none⟩), .slice aa n cp] w fun e w' => (¬ C.Takes n f ∧ e = .returned (.int .i64 49) ∧ Up w w') ∨ (C.Takes n f ∧ e = .returned (.int .i64 0) ∧ RtAt w' Y (C.loaded f) ∧ FK Y.K w w') := by
  by_cases hn : n = 5 + C.rm
  · exact loadR_any h hL hn (hK (by omega))
  · exact (loadR_len h hL hn).mono fun e w' q => Or.inl ⟨fun t => hn t.1, q⟩
set_option maxRecDepth 100000 in
set_option maxHeartbeats 2000000 in
theorem stepLoad (h : Pw W Q pb lo hi A Y C C S L H hf w) (hN : L.es.length ≤ 10000000) (ha : I64 a) (hc : I64 c) : Calls Tryd.prog 26 #[.pointer (some ⟨pb, 0, none⟩), .agg #[.int .i64 5, .int .i64 a, .int .i64 b, .int .i64 c]] w (StepAns W Q pb lo hi A Y (L.es.length + 12)) := by
  have HPo : Hid _ := h.start 5 a b c
  clear h
  go_enter Tryd.func26, Tryd.ntmps26
  go_upto_region 30 with fail
  generalize World.alloc w _ = w0 at HPo ⊢
  generalize w.heap.size = ob at HPo ⊢
  have k2 : w0.cell? ⟨pb, 2, none⟩ = some L.x2 := heap_cell HPo.out.p.bf.bl.blk rfl
  obtain ⟨la, lb, lo', ln, lc, lf, el, ly, ⟨ln1, ln2⟩, _⟩ := HPo.out.p.la
  rw [el] at k2
  have k2' := cell_up ((Up.refl _).alloc (.cells #[] 5)) k2
  clear k2
  obtain ⟨s, w1, r1, o1, u1⟩ := want_runB ly ln2 ln1
  have HR : Hid _ := r1
  obtain ⟨sa, sb, so, sc, rfl, _, _⟩ := byts_own o1 ly.u8
  have HM1 : Hid (Ms 4000000 w0 w1 (.slice sa ln sc)) := ⟨u1, ln, lf, o1, by omega, ly.u8⟩
  clear el ly r1 o1 u1
  go_upto_region 31 with (at_builtin; refine Lib.wpList_append_run _ rfl _ _ _ _ rfl _ _ rfl rfl _ _ HR.out ?_; clear HR)
  clear k2'
  have ko2 := (HPo.out.up HM1.out.1).o.fb
  go_cut [196] from 189 to 230 (fun V wx => V = .bool (decide (0 < ln ∧ b ≠ 0)) ∧ wx = w1)
  case first =>
    by_cases h0 : 0 < ln
    · have e0 : (0 : Int) < (ln : Int) := by omega
      by_cases h1 : b = 0
      · have e1 : (b == 0) = true := by simpa using h1
        have e2 : decide (0 < ln ∧ b ≠ 0) = false := by simp [h1]
        go_wp2_with fail
        go_meet
        exact ⟨by rw [e2], rfl⟩
      · have e1 : (b == 0) = false := by simpa using h1
        have e2 : decide (0 < ln ∧ b ≠ 0) = true := by simp [h1, h0]
        go_wp2_with fail
        go_meet
        exact ⟨by rw [e2]; first | rfl | (congr 1; simpa using h1), rfl⟩
    · have e0 : ¬ (0 : Int) < (ln : Int) := by omega
      have e2 : decide (0 < ln ∧ b ≠ 0) = false := by simp [h0]
      go_wp2_with fail
      go_meet
      exact ⟨by rw [e2], rfl⟩
  case rest =>
  obtain ⟨rfl, rfl⟩ := hcut
  go_upto_if 196 with fail
  go_cut [21] from 189 to 230 (fun V wx => ∃ sa sn sc, V = .slice sa sn sc ∧ Hid (Ms 4000000 w0 wx V))
  case first =>
    by_cases q : 0 < ln ∧ b ≠ 0
    · have eq1 : decide (0 < ln ∧ b ≠ 0) = true := by simpa using q
      obtain ⟨g, gc, eg, gl, gm, gn, hst⟩ := HM1.out.set rfl q.1
      injection eg with eg1 _ eg2
      obtain ⟨J, hJ, hJ2, hJ3⟩ := pickI_nat (c := a) (n := ln) ha (by omega) (by omega)
      have hJ4 : (J : Int) < (ln : Int) := by omega
      have sc9 : sc ≤ 9223372036854775807 := by rw [eg2]; unfold maxLen at gm; omega
      have HPk : Hid (∀ w, Calls Tryd.prog 14 #[.int .i64 a, .int .i64 (ln : Int)] w fun e w' => e = .returned (.int .i64 (J : Int)) ∧ w' = w) := fun w => by
        have := pick_any a ln w ha (by omega) (by omega)
        rw [hJ] at this
        exact this
      have HSt : Hid _ := hst J hJ2 (IntKind.u8.wrap b) (wrap8 b).1 (wrap8 b).2
      subst eg1 eg2
      clear hst hJ
      go_wp2_with fail
      refine wp_region_held_drew (S := fun w => w.cell? ⟨ob, 1, none⟩ = some (.int .i64 a) ∧ w.cell? ⟨ob, 2, none⟩ = some (.int .i64 b)) (by kernel_rfl) ⟨(HPo.out.up HM1.out.1).o.fa, (HPo.out.up HM1.out.1).o.fb⟩ (fun hHeld => ?_)
      refine wpAnyH_take (i := 0) (v := ?_) (by simp only [List.getElem?_toArray, List.getElem?_cons_zero]; rfl) (by kernel_rfl) (by kernel_rfl) (by kernel_rfl) (by intro _ _ _ h; exact h) (Or.inl ⟨by rfl, ?_⟩) (by assumption) ?_
      rotate_left
      · (intro w hSw; (try dsimp only at hSw); obtain ⟨hS0, hS1⟩ := hSw; go_simp <;> with_reducible rfl)
      try simp only [Act.put, List.setIfInBounds_toArray, List.set_cons_zero, List.set_cons_succ]
      refine wpAnyH_take (i := 1) (v := ?_) (by simp only [List.getElem?_toArray, List.getElem?_cons_succ, List.getElem?_cons_zero]; rfl) (by kernel_rfl) (by kernel_rfl) (by kernel_rfl) (by intro _ _ _ h; exact h) (Or.inl ⟨by rfl, ?_⟩) (by assumption) ?_
      rotate_left
      · (intro w hSw; (try dsimp only at hSw); obtain ⟨hS0, hS1⟩ := hSw; go_simp <;> with_reducible rfl)
      try simp only [Act.put, List.setIfInBounds_toArray, List.set_cons_zero, List.set_cons_succ]
      refine wpAnyH_take (i := 2) (v := ?_) (by simp only [List.getElem?_toArray, List.getElem?_cons_succ, List.getElem?_cons_zero]; rfl) (by kernel_rfl) (by kernel_rfl) (by kernel_rfl) (by intro _ _ _ h; exact h) (Or.inl ⟨by rfl, ?_⟩) (by assumption) ?_
      rotate_left
      · (intro w hSw; (try dsimp only at hSw); obtain ⟨hS0, hS1⟩ := hSw; go_simp <;> with_reducible rfl)
      try simp only [Act.put, List.setIfInBounds_toArray, List.set_cons_zero, List.set_cons_succ]
      refine wpAnyH_take (i := 3) (v := ?_) (by simp only [List.getElem?_toArray, List.getElem?_cons_succ, List.getElem?_cons_zero]; rfl) (by kernel_rfl) (by kernel_rfl) (by kernel_rfl) (by intro _ _ _ h; exact h) (Or.inl ⟨by rfl, ?_⟩) (by assumption) ?_
      rotate_left
      · (intro w hSw; (try dsimp only at hSw); obtain ⟨hS0, hS1⟩ := hSw; go_simp <;> with_reducible rfl)
      try simp only [Act.put, List.setIfInBounds_toArray, List.set_cons_zero, List.set_cons_succ]
      refine wpAnyH_take (i := 4) (v := ?_) (by simp only [List.getElem?_toArray, List.getElem?_cons_succ, List.getElem?_cons_zero]; rfl) (by kernel_rfl) (by kernel_rfl) (by kernel_rfl) (by intro _ _ _ h; exact h) (Or.inl ⟨by rfl, ?_⟩) (by assumption) ?_
      rotate_left
      · (intro w hSw; (try dsimp only at hSw); obtain ⟨hS0, hS1⟩ := hSw; go_simp <;> with_reducible rfl)
      try simp only [Act.put, List.setIfInBounds_toArray, List.set_cons_zero, List.set_cons_succ]
      refine wpAnyH_take (i := 6) (v := ?_) (by simp only [List.getElem?_toArray, List.getElem?_cons_succ, List.getElem?_cons_zero]; rfl) (by kernel_rfl) (by kernel_rfl) (by kernel_rfl) (by intro _ _ _ h; exact h) (Or.inl ⟨by rfl, ?_⟩) (by assumption) ?_
      rotate_left
      · (intro w hSw; (try dsimp only at hSw); obtain ⟨hS0, hS1⟩ := hSw; go_simp <;> with_reducible rfl)
      try simp only [Act.put, List.setIfInBounds_toArray, List.set_cons_zero, List.set_cons_succ]
      refine wpAnyH_take (i := 7) (v := ?_) (by simp only [List.getElem?_toArray, List.getElem?_cons_succ, List.getElem?_cons_zero]; rfl) (by kernel_rfl) (by kernel_rfl) (by kernel_rfl) (by intro _ _ _ h; exact h) (Or.inl ⟨by rfl, ?_⟩) (by assumption) ?_
      rotate_left
      · (intro w hSw; (try dsimp only at hSw); obtain ⟨hS0, hS1⟩ := hSw; go_simp <;> with_reducible rfl)
      try simp only [Act.put, List.setIfInBounds_toArray, List.set_cons_zero, List.set_cons_succ]
      refine wpAnyH_take (i := 8) (v := ?_) (by simp only [List.getElem?_toArray, List.getElem?_cons_succ, List.getElem?_cons_zero]; rfl) (by kernel_rfl) (by kernel_rfl) (by kernel_rfl) (by intro _ _ _ h; exact h) (Or.inl ⟨by rfl, ?_⟩) (by assumption) ?_
      rotate_left
      · (intro w hSw; (try dsimp only at hSw); obtain ⟨hS0, hS1⟩ := hSw; go_simp <;> with_reducible rfl)
      try simp only [Act.put, List.setIfInBounds_toArray, List.set_cons_zero, List.set_cons_succ]
      refine wpAnyH_ready (rs := [5]) (by kernel_rfl) (by simp) ?_
      refine AllReadyH.cons (by simp only [List.getElem?_toArray, List.getElem?_cons_succ, List.getElem?_cons_zero]; rfl) (fun KK hK => ?_) AllReadyH.nil
      go_simp
      refine Calls.mono (HPk.out _) ?_
      rintro e w2 ⟨rfl, rfl⟩
      refine hK.out _ _ ⟨(HPo.out.up (HM1.out.1.trans (Up.drewN _ 1))).o.fa, (HPo.out.up (HM1.out.1.trans (Up.drewN _ 1))).o.fb⟩ (fun hHeld => ?_)
      clear hK KK
      try simp only [Act.put, List.setIfInBounds_toArray, List.set_cons_zero, List.set_cons_succ]
      refine wpAnyH_take (i := 9) (v := ?_) (by simp only [List.getElem?_toArray, List.getElem?_cons_succ, List.getElem?_cons_zero]; rfl) (by kernel_rfl) (by kernel_rfl) (by kernel_rfl) (by intro _ _ _ h; exact h) (Or.inl ⟨by rfl, ?_⟩) (by assumption) ?_
      rotate_left
      · (intro w hSw; (try dsimp only at hSw); obtain ⟨hS0, hS1⟩ := hSw; go_simp <;> with_reducible rfl)
      try simp only [Act.put, List.setIfInBounds_toArray, List.set_cons_zero, List.set_cons_succ]
      refine wpAnyH_ready (rs := [10]) (by kernel_rfl) (by simp) ?_
      refine AllReadyH.cons (by simp only [List.getElem?_toArray, List.getElem?_cons_succ, List.getElem?_cons_zero]; rfl) (fun KK hK => ?_) AllReadyH.nil
      obtain ⟨⟨y, ky⟩, kf, hms⟩ := HSt.out
      go_simp
      have HM3 : Hid (Ms 4000000 w0 (World.drew (wc.setCell ⟨g, J, none⟩ (.int .u8 (IntKind.u8.wrap b)))) (.slice (some ⟨g, 0, none⟩) ln sc)) := hms.up ((Up.refl _).drew)
      refine hK.out _ _ ⟨(HPo.out.up HM3.out.1).o.fa, (HPo.out.up HM3.out.1).o.fb⟩ (fun hHeld => ?_)
      refine wpAnyH_done (by kernel_rfl) ?_ _
      clear hHeld hK KK
      go_wp2_with fail
      go_meet
      exact ⟨_, _, _, rfl, HM3⟩
    · have eq1 : decide (0 < ln ∧ b ≠ 0) = false := by simpa using q
      go_wp2_with fail
      go_meet
      exact ⟨sa, ln, sc, rfl, HM1⟩
  case rest =>
  obtain ⟨sa2, sn2, sc2, rfl, HM2⟩ := hcut
  clear HM1
  have ko3 := (HPo.out.up HM2.out.1).o.fc
  go_upto_if 209 with fail
  go_cut [21] from 189 to 230 (fun V wx => ∃ sa sn sc, V = .slice sa sn sc ∧ Hid (Ms 4000002 w0 wx V))
  case first =>
    by_cases q : 0 < c
    · obtain ⟨J, hJ, hJ2, hJ3⟩ := pickI_nat (c := c) (n := 3) hc (by omega) (by omega)
      have HPk : Hid (∀ w, Calls Tryd.prog 14 #[.int .i64 c, .int .i64 3] w fun e w' => e = .returned (.int .i64 (J : Int)) ∧ w' = w) := fun w => by
        have := pick_any c 3 w hc (by omega) (by omega)
        rw [show pickI c 3 = (J : Int) from hJ] at this
        exact this
      obtain ⟨v', w3, r3, m3, a3, n3, c3, rfl⟩ := HM2.out.zeros hJ2 (Nat.le_refl _)
      have HR3 : Hid _ := r3
      have HM3 : Hid _ := m3
      clear hJ r3 m3
      go_wp2_with fail
      refine Calls.mono (HPk.out _) ?_
      rintro e w2 ⟨rfl, rfl⟩
      go_wp2_with (at_builtin; refine Lib.wpList_append_run _ rfl _ _ _ _ rfl _ _ rfl rfl _ _ HR3.out ?_; clear HR3)
      go_meet
      exact ⟨_, _, _, rfl, HM3⟩
    · go_wp2_with fail
      go_meet
      exact ⟨_, _, _, rfl, HM2.out.wide (by omega)⟩
  case rest =>
  obtain ⟨sa3, sn3, sc3, rfl, HM3⟩ := hcut
  clear HM2 ko3
  have ko4 := (HPo.out.up HM3.out.1).o.fc
  go_upto_if 217 with fail
  go_cut [21] from 189 to 230 (fun V wx => ∃ sa sn sc, V = .slice sa sn sc ∧ Hid (Ms 4000002 w0 wx V))
  case first =>
    by_cases q : c < 0
    · obtain ⟨_, hb3, f3, _, _, hl3, hc3⟩ := HM3.out.open
      have hc9 : sc3 ≤ 9223372036854775807 := by unfold maxLen at hc3; omega
      obtain ⟨J, hJ, hJ2, hJ3⟩ := pickI_nat (c := c) (n := sn3 + 1) hc (by omega) (by omega)
      have HPk : Hid (∀ w, Calls Tryd.prog 14 #[.int .i64 c, .int .i64 ((sn3 : Int) + 1)] w fun e w' => e = .returned (.int .i64 (J : Int)) ∧ w' = w) := fun w => by
        have := pick_any c ((sn3 + 1 : Nat) : Int) w hc (by omega) (by omega)
        rw [hJ] at this
        rw [show ((sn3 + 1 : Nat) : Int) = (sn3 : Int) + 1 by omega] at this
        exact this
      clear hJ
      go_wp2_with fail
      refine Calls.mono (HPk.out _) ?_
      rintro e w2 ⟨rfl, rfl⟩
      have e8 : (sn3 : Int) - (J : Int) = ((sn3 - J : Nat) : Int) := by omega
      have e9 : ((sn3 - J : Nat) : Int) ≤ (sn3 : Int) := by omega
      go_wp2_with fail
      go_meet
      exact ⟨_, _, _, rfl, HM3.out.cut (Nat.sub_le _ _)⟩
    · go_wp2_with fail
      go_meet
      exact ⟨_, _, _, rfl, HM3⟩
  case rest =>
  obtain ⟨sa4, sn4, sc4, rfl, HM4⟩ := hcut
  clear HM3 ko4
  obtain ⟨u4, hb4, f4, o4, h84, hl4, hc4⟩ := HM4.out.open
  obtain ⟨qa, sb4, so4, qc, qe, qb, qo⟩ := byts_own o4 h84
  injection qe with qe1 _ qe2
  subst qe1 qe2
  have HB4 : Hid (Byts wc sa4 sb4 so4 sn4 sc4 f4 ∧ (0 < sn4 → w0.heap.size ≤ sb4 ∧ sb4 < wc.heap.size)) := ⟨qb, fun k => o4.lt sb4 (qo k)⟩
  have HP4 : Hid _ := HPo.out.up u4
  have HO : Hid (pb < w0.heap.size) := HPo.out.p.lh.2.2.1
  have sc9 : sc4 ≤ 9223372036854775807 := by unfold maxLen at hc4; omega
  have HPx : Hid (∀ l, wc.heap.size ≤ l → ¬ Al S L l ∧ L.x2.ownBlock ≠ some l ∧ ¬ Q.K l) := fun l hl => HP4.out.p.new hl
  clear HPo HM4 u4 o4 qb qo
  obtain ⟨M, hM⟩ : ∃ M : Nat, M = sn4 + 8 := ⟨_, rfl⟩
  have HMe : Hid (M = sn4 + 8) := hM
  have HL : Hid (Calls Tryd.prog 28 #[.slice sa4 sn4 sc4] wc fun e w' => ∃ l, e = .returned (.slice (some ⟨l, 0, none⟩) M M) ∧ wc.heap.size ≤ l ∧ By w' l M (lentF sn4 f4) ∧ Up wc w') := by rw [hM]; exact lentB_any HB4.out.1 (by omega)
  have eM : (sn4 : Int) ≤ (M : Int) := by omega
  have eM2 : sn4 ≤ M := by omega
  have m9 : M ≤ 9223372036854775807 := by omega
  clear hM
  go_wp2_with fail
  refine Calls.mono HL.out ?_
  rintro e w5 ⟨l, rfl, hl, hlb, u5⟩
  have HP5 : Hid _ := HP4.out.up u5
  have HB5 : Hid (Byts w5 sa4 sb4 so4 sn4 sc4 f4 ∧ (0 < sn4 → pb < sb4 ∧ sb4 < wc.heap.size) ∧ By w5 l M (lentF sn4 f4) ∧ pb < l ∧ wc.heap.size ≤ l) := by
    have := HP4.out.p.lh.2.2.1
    exact ⟨HB4.out.1.upB u5, fun k => ⟨by have := HB4.out.2 k; have := HO.out; omega, (HB4.out.2 k).2⟩, hlb, by omega, hl⟩
  clear HP4 HB4 HL hl hlb u5
  go_wp2_with fail
  by_cases hT : C.Takes sn4 f4
  · skip
    refine wp_region_held_drew (S := fun w => w.cell? ⟨pb, 0, none⟩ = some (.pointer (some ⟨A.cb, 0, none⟩))) (by kernel_rfl) HP5.out.p.c0 (fun hHeld => ?_)
    have HPd : Hid _ := HP5.out.up ((Up.refl w5).drew)
    have HBd : Hid (Byts w5.drew sa4 sb4 so4 sn4 sc4 f4 ∧ (0 < sn4 → pb < sb4 ∧ sb4 < wc.heap.size) ∧ By w5.drew l M (lentF sn4 f4) ∧ pb < l ∧ wc.heap.size ≤ l) := ⟨HB5.out.1.upB ((Up.refl w5).drew), HB5.out.2.1, HB5.out.2.2.1.up ((Up.refl w5).drew), HB5.out.2.2.2⟩
    clear HP5 HB5
    generalize World.drew w5 = wd at HPd HBd hHeld ⊢
    have HLd : Hid (Calls Tryd.prog 20 #[.pointer (some ⟨A.cb, 0, none⟩), .slice (some ⟨l, 0, none⟩) sn4 M] wd fun e w' => e = .returned (.int .i64 0) ∧ Hid (Cz lo hi A (C.loaded f4) w' ∧ FK (Off lo hi) wd w')) := by
      have hq : By wd l (sn4 + 8) (lentF sn4 f4) := by rw [← HMe.out]; exact HBd.out.2.2.1
      refine (load_all HPd.out.p.x ((lent_by hq).byts eM2 (by unfold maxLen; have := HMe.out; omega) h84) (Or.inr (by have := HPd.out.p.lh; have := HBd.out.2.2.2.1; omega))).mono ?_
      rintro e w' (⟨q1, q2, q3⟩ | ⟨q1, q2, q3, q4⟩)
      · exact absurd hT q1
      · exact ⟨q2, q3, q4⟩
    refine wpAnyH_take (i := 0) (v := ?_) (by simp only [List.getElem?_toArray, List.getElem?_cons_zero]; rfl) (by kernel_rfl) (by kernel_rfl) (by kernel_rfl) (by intro _ _ _ h; exact h) (Or.inl ⟨by rfl, ?_⟩) (by assumption) ?_
    rotate_left
    · (intro w hSw; (try dsimp only at hSw); go_simp <;> with_reducible rfl)
    try simp only [Act.put, List.setIfInBounds_toArray, List.set_cons_zero, List.set_cons_succ]
    refine wpAnyH_take (i := 1) (v := ?_) (by simp only [List.getElem?_toArray, List.getElem?_cons_succ, List.getElem?_cons_zero]; rfl) (by kernel_rfl) (by kernel_rfl) (by kernel_rfl) (by intro _ _ _ h; exact h) (Or.inl ⟨by rfl, ?_⟩) (by assumption) ?_
    rotate_left
    · (intro w hSw; (try dsimp only at hSw); go_simp <;> with_reducible rfl)
    try simp only [Act.put, List.setIfInBounds_toArray, List.set_cons_zero, List.set_cons_succ]
    refine wpAnyH_take (i := 2) (v := ?_) (by simp only [List.getElem?_toArray, List.getElem?_cons_succ, List.getElem?_cons_zero]; rfl) (by kernel_rfl) (by kernel_rfl) (by kernel_rfl) (by intro _ _ _ h; exact h) (Or.inl ⟨by rfl, ?_⟩) (by assumption) ?_
    rotate_left
    · (intro w hSw; (try dsimp only at hSw); go_simp <;> with_reducible rfl)
    try simp only [Act.put, List.setIfInBounds_toArray, List.set_cons_zero, List.set_cons_succ]
    refine wpAnyH_take (i := 3) (v := ?_) (by simp only [List.getElem?_toArray, List.getElem?_cons_succ, List.getElem?_cons_zero]; rfl) (by kernel_rfl) (by kernel_rfl) (by kernel_rfl) (by intro _ _ _ h; exact h) (Or.inl ⟨by rfl, ?_⟩) (by assumption) ?_
    rotate_left
    · (intro w hSw; (try dsimp only at hSw); go_simp <;> with_reducible rfl)
    try simp only [Act.put, List.setIfInBounds_toArray, List.set_cons_zero, List.set_cons_succ]
    refine wpAnyH_take (i := 4) (v := ?_) (by simp only [List.getElem?_toArray, List.getElem?_cons_succ, List.getElem?_cons_zero]; rfl) (by kernel_rfl) (by kernel_rfl) (by kernel_rfl) (by intro _ _ _ h; exact h) (Or.inl ⟨by rfl, ?_⟩) (by assumption) ?_
    rotate_left
    · (intro w hSw; (try dsimp only at hSw); go_simp <;> with_reducible rfl)
    try simp only [Act.put, List.setIfInBounds_toArray, List.set_cons_zero, List.set_cons_succ]
    refine wpAnyH_take (i := 5) (v := ?_) (by simp only [List.getElem?_toArray, List.getElem?_cons_succ, List.getElem?_cons_zero]; rfl) (by kernel_rfl) (by kernel_rfl) (by kernel_rfl) (by intro _ _ _ h; exact h) (Or.inl ⟨by rfl, ?_⟩) (by assumption) ?_
    rotate_left
    · (intro w hSw; (try dsimp only at hSw); go_simp <;> with_reducible rfl)
    try simp only [Act.put, List.setIfInBounds_toArray, List.set_cons_zero, List.set_cons_succ]
    refine wpAnyH_take (i := 6) (v := ?_) (by simp only [List.getElem?_toArray, List.getElem?_cons_succ, List.getElem?_cons_zero]; rfl) (by kernel_rfl) (by kernel_rfl) (by kernel_rfl) (by intro _ _ _ h; exact h) (Or.inl ⟨by rfl, ?_⟩) (by assumption) ?_
    rotate_left
    · (intro w hSw; (try dsimp only at hSw); go_simp <;> with_reducible rfl)
    try simp only [Act.put, List.setIfInBounds_toArray, List.set_cons_zero, List.set_cons_succ]
    refine wpAnyH_take (i := 7) (v := ?_) (by simp only [List.getElem?_toArray, List.getElem?_cons_succ, List.getElem?_cons_zero]; rfl) (by kernel_rfl) (by kernel_rfl) (by kernel_rfl) (by intro _ _ _ h; exact h) (Or.inl ⟨by rfl, ?_⟩) (by assumption) ?_
    rotate_left
    · (intro w hSw; (try dsimp only at hSw); go_simp <;> with_reducible rfl)
    try simp only [Act.put, List.setIfInBounds_toArray, List.set_cons_zero, List.set_cons_succ]
    refine wpAnyH_ready (rs := [8]) (by kernel_rfl) (by simp) ?_
    refine AllReadyH.cons (by simp only [List.getElem?_toArray, List.getElem?_cons_succ, List.getElem?_cons_zero]; rfl) (fun KK hK => ?_) AllReadyH.nil
    go_simp
    refine Calls.mono HLd.out ?_
    rintro e w6 ⟨rfl, hx⟩
    clear HLd
    have HP6 : Hid (Po W Q pb lo hi A Y (C.loaded f4) C S L H hf ob 5 a b c w6) := HPd.out.chX hx.out.1 hx.out.2 HPd.out.p.hb
    have HB6 : Hid (Byts w6 sa4 sb4 so4 sn4 sc4 f4 ∧ (0 < sn4 → pb < sb4 ∧ sb4 < wc.heap.size) ∧ By w6 l M (lentF sn4 f4) ∧ pb < l ∧ wc.heap.size ≤ l) := by
      obtain ⟨b1, b2, b3, b4, b5⟩ := HBd.out
      have hlh := HPd.out.p.lh
      exact ⟨b1.keep (fun k => hx.out.2.block sb4 (by have := b1.ltB k; omega) (Or.inr (by have := b2 k; omega))), b2, b3.of_block (hx.out.2.block l b3.lt (Or.inr (by omega))), b4, b5⟩
    refine hK.out _ _ HP6.out.p.c0 (fun hHeld => ?_)
    clear hK KK HPd HBd hx
    try simp only [Act.put, List.setIfInBounds_toArray, List.set_cons_zero, List.set_cons_succ]
    refine wpAnyH_take (i := 9) (v := ?_) (by simp only [List.getElem?_toArray, List.getElem?_cons_succ, List.getElem?_cons_zero]; rfl) (by kernel_rfl) (by kernel_rfl) (by kernel_rfl) (by intro _ _ _ h; exact h) (Or.inl ⟨by rfl, ?_⟩) (by assumption) ?_
    rotate_left
    · (intro w hSw; (try dsimp only at hSw); go_simp <;> with_reducible rfl)
    try simp only [Act.put, List.setIfInBounds_toArray, List.set_cons_zero, List.set_cons_succ]
    refine wpAnyH_done (by kernel_rfl) ?_ _
    clear hHeld
    have k1 := HP6.out.p.c1
    go_wp2_with fail
    have HLd : Hid (Calls Tryd.prog 53 #[.pointer (some ⟨Y.yb, 0, none⟩), .slice sa4 sn4 sc4] w6 fun e w' => e = .returned (.int .i64 0) ∧ Hid (RtAt w' Y (C.loaded f4) ∧ FK Y.K w6 w')) := by
      refine (loadR_all HP6.out.p.y HB6.out.1 (fun k => by have := HB6.out.2.1 k; have := HP6.out.p.y1; have := HP6.out.p.y3; exact ⟨by omega, by omega⟩)).mono ?_
      rintro e w' (⟨q1, q2, q3⟩ | ⟨q1, q2, q3, q4⟩)
      · exact absurd hT q1
      · exact ⟨q2, q3, q4⟩
    refine Calls.mono HLd.out ?_
    rintro e w7 ⟨rfl, hx⟩
    clear HLd
    have HP7 : Hid (Po W Q pb lo hi A Y (C.loaded f4) (C.loaded f4) S L H hf ob 5 a b c w7) := HP6.out.chY hx.out.1 hx.out.2
    have HB7 : Hid (Byts w7 sa4 sb4 so4 sn4 sc4 f4 ∧ (0 < sn4 → pb < sb4 ∧ sb4 < wc.heap.size) ∧ By w7 l M (lentF sn4 f4) ∧ pb < l ∧ wc.heap.size ≤ l) := by
      obtain ⟨b1, b2, b3, b4, b5⟩ := HB6.out
      have y1 := HP6.out.p.y1
      have y3 := HP6.out.p.y3
      exact ⟨b1.keep (fun k => hx.out.2.block sb4 (by have := b1.ltB k; omega) (by have := b2 k; exact ⟨by omega, by omega⟩)), b2, b3.of_block (hx.out.2.block l b3.lt ⟨by omega, by omega⟩), b4, b5⟩
    clear HP6 HB6 hx k1
    have HBk : Hid (Calls Tryd.prog 30 #[.slice (some ⟨l, 0, none⟩) M M, .slice sa4 sn4 sc4] w7 fun e w' => e = .returned (.bool true) ∧ Fr l w7 w') := by
      have hq : By w7 l (sn4 + 8) (lentF sn4 f4) := by rw [← HMe.out]; exact HB7.out.2.2.1
      rw [HMe.out]
      exact backB_any HB7.out.1 (by omega) hq
    go_wp2_with fail
    refine Calls.mono HBk.out ?_
    rintro e w8 ⟨rfl, fr⟩
    have HP8 : Hid _ := HP7.out.p.frF fr HB7.out.2.2.2.1 (HPx.out l HB7.out.2.2.2.2)
    clear HP7 HB7 HBk fr
    go_wp2_with fail
    go_ret
    exact ⟨by first | rfl | (simp; done), _, _, _, _, _, HP8.out, by omega⟩
  · skip
    refine wp_region_held_drew (S := fun w => w.cell? ⟨pb, 0, none⟩ = some (.pointer (some ⟨A.cb, 0, none⟩))) (by kernel_rfl) HP5.out.p.c0 (fun hHeld => ?_)
    have HPd : Hid _ := HP5.out.up ((Up.refl w5).drew)
    have HBd : Hid (Byts w5.drew sa4 sb4 so4 sn4 sc4 f4 ∧ (0 < sn4 → pb < sb4 ∧ sb4 < wc.heap.size) ∧ By w5.drew l M (lentF sn4 f4) ∧ pb < l ∧ wc.heap.size ≤ l) := ⟨HB5.out.1.upB ((Up.refl w5).drew), HB5.out.2.1, HB5.out.2.2.1.up ((Up.refl w5).drew), HB5.out.2.2.2⟩
    clear HP5 HB5
    generalize World.drew w5 = wd at HPd HBd hHeld ⊢
    have HLd : Hid (Calls Tryd.prog 20 #[.pointer (some ⟨A.cb, 0, none⟩), .slice (some ⟨l, 0, none⟩) sn4 M] wd fun e w' => e = .returned (.int .i64 49) ∧ Hid (Up wd w')) := by
      have hq : By wd l (sn4 + 8) (lentF sn4 f4) := by rw [← HMe.out]; exact HBd.out.2.2.1
      refine (load_all HPd.out.p.x ((lent_by hq).byts eM2 (by unfold maxLen; have := HMe.out; omega) h84) (Or.inr (by have := HPd.out.p.lh; have := HBd.out.2.2.2.1; omega))).mono ?_
      rintro e w' (⟨q1, q2, q3⟩ | ⟨q1, q2, q3, q4⟩)
      · exact ⟨q2, q3⟩
      · exact absurd q1 hT
    refine wpAnyH_take (i := 0) (v := ?_) (by simp only [List.getElem?_toArray, List.getElem?_cons_zero]; rfl) (by kernel_rfl) (by kernel_rfl) (by kernel_rfl) (by intro _ _ _ h; exact h) (Or.inl ⟨by rfl, ?_⟩) (by assumption) ?_
    rotate_left
    · (intro w hSw; (try dsimp only at hSw); go_simp <;> with_reducible rfl)
    try simp only [Act.put, List.setIfInBounds_toArray, List.set_cons_zero, List.set_cons_succ]
    refine wpAnyH_take (i := 1) (v := ?_) (by simp only [List.getElem?_toArray, List.getElem?_cons_succ, List.getElem?_cons_zero]; rfl) (by kernel_rfl) (by kernel_rfl) (by kernel_rfl) (by intro _ _ _ h; exact h) (Or.inl ⟨by rfl, ?_⟩) (by assumption) ?_
    rotate_left
    · (intro w hSw; (try dsimp only at hSw); go_simp <;> with_reducible rfl)
    try simp only [Act.put, List.setIfInBounds_toArray, List.set_cons_zero, List.set_cons_succ]
    refine wpAnyH_take (i := 2) (v := ?_) (by simp only [List.getElem?_toArray, List.getElem?_cons_succ, List.getElem?_cons_zero]; rfl) (by kernel_rfl) (by kernel_rfl) (by kernel_rfl) (by intro _ _ _ h; exact h) (Or.inl ⟨by rfl, ?_⟩) (by assumption) ?_
    rotate_left
    · (intro w hSw; (try dsimp only at hSw); go_simp <;> with_reducible rfl)
    try simp only [Act.put, List.setIfInBounds_toArray, List.set_cons_zero, List.set_cons_succ]
    refine wpAnyH_take (i := 3) (v := ?_) (by simp only [List.getElem?_toArray, List.getElem?_cons_succ, List.getElem?_cons_zero]; rfl) (by kernel_rfl) (by kernel_rfl) (by kernel_rfl) (by intro _ _ _ h; exact h) (Or.inl ⟨by rfl, ?_⟩) (by assumption) ?_
    rotate_left
    · (intro w hSw; (try dsimp only at hSw); go_simp <;> with_reducible rfl)
    try simp only [Act.put, List.setIfInBounds_toArray, List.set_cons_zero, List.set_cons_succ]
    refine wpAnyH_take (i := 4) (v := ?_) (by simp only [List.getElem?_toArray, List.getElem?_cons_succ, List.getElem?_cons_zero]; rfl) (by kernel_rfl) (by kernel_rfl) (by kernel_rfl) (by intro _ _ _ h; exact h) (Or.inl ⟨by rfl, ?_⟩) (by assumption) ?_
    rotate_left
    · (intro w hSw; (try dsimp only at hSw); go_simp <;> with_reducible rfl)
    try simp only [Act.put, List.setIfInBounds_toArray, List.set_cons_zero, List.set_cons_succ]
    refine wpAnyH_take (i := 5) (v := ?_) (by simp only [List.getElem?_toArray, List.getElem?_cons_succ, List.getElem?_cons_zero]; rfl) (by kernel_rfl) (by kernel_rfl) (by kernel_rfl) (by intro _ _ _ h; exact h) (Or.inl ⟨by rfl, ?_⟩) (by assumption) ?_
    rotate_left
    · (intro w hSw; (try dsimp only at hSw); go_simp <;> with_reducible rfl)
    try simp only [Act.put, List.setIfInBounds_toArray, List.set_cons_zero, List.set_cons_succ]
    refine wpAnyH_take (i := 6) (v := ?_) (by simp only [List.getElem?_toArray, List.getElem?_cons_succ, List.getElem?_cons_zero]; rfl) (by kernel_rfl) (by kernel_rfl) (by kernel_rfl) (by intro _ _ _ h; exact h) (Or.inl ⟨by rfl, ?_⟩) (by assumption) ?_
    rotate_left
    · (intro w hSw; (try dsimp only at hSw); go_simp <;> with_reducible rfl)
    try simp only [Act.put, List.setIfInBounds_toArray, List.set_cons_zero, List.set_cons_succ]
    refine wpAnyH_take (i := 7) (v := ?_) (by simp only [List.getElem?_toArray, List.getElem?_cons_succ, List.getElem?_cons_zero]; rfl) (by kernel_rfl) (by kernel_rfl) (by kernel_rfl) (by intro _ _ _ h; exact h) (Or.inl ⟨by rfl, ?_⟩) (by assumption) ?_
    rotate_left
    · (intro w hSw; (try dsimp only at hSw); go_simp <;> with_reducible rfl)
    try simp only [Act.put, List.setIfInBounds_toArray, List.set_cons_zero, List.set_cons_succ]
    refine wpAnyH_ready (rs := [8]) (by kernel_rfl) (by simp) ?_
    refine AllReadyH.cons (by simp only [List.getElem?_toArray, List.getElem?_cons_succ, List.getElem?_cons_zero]; rfl) (fun KK hK => ?_) AllReadyH.nil
    go_simp
    refine Calls.mono HLd.out ?_
    rintro e w6 ⟨rfl, hx⟩
    clear HLd
    have HP6 : Hid (Po W Q pb lo hi A Y C C S L H hf ob 5 a b c w6) := HPd.out.up hx.out
    have HB6 : Hid (Byts w6 sa4 sb4 so4 sn4 sc4 f4 ∧ (0 < sn4 → pb < sb4 ∧ sb4 < wc.heap.size) ∧ By w6 l M (lentF sn4 f4) ∧ pb < l ∧ wc.heap.size ≤ l) := ⟨HBd.out.1.upB hx.out, HBd.out.2.1, HBd.out.2.2.1.up hx.out, HBd.out.2.2.2⟩
    refine hK.out _ _ HP6.out.p.c0 (fun hHeld => ?_)
    clear hK KK HPd HBd hx
    try simp only [Act.put, List.setIfInBounds_toArray, List.set_cons_zero, List.set_cons_succ]
    refine wpAnyH_take (i := 9) (v := ?_) (by simp only [List.getElem?_toArray, List.getElem?_cons_succ, List.getElem?_cons_zero]; rfl) (by kernel_rfl) (by kernel_rfl) (by kernel_rfl) (by intro _ _ _ h; exact h) (Or.inl ⟨by rfl, ?_⟩) (by assumption) ?_
    rotate_left
    · (intro w hSw; (try dsimp only at hSw); go_simp <;> with_reducible rfl)
    try simp only [Act.put, List.setIfInBounds_toArray, List.set_cons_zero, List.set_cons_succ]
    refine wpAnyH_done (by kernel_rfl) ?_ _
    clear hHeld
    have k1 := HP6.out.p.c1
    go_wp2_with fail
    have HLd : Hid (Calls Tryd.prog 53 #[.pointer (some ⟨Y.yb, 0, none⟩), .slice sa4 sn4 sc4] w6 fun e w' => e = .returned (.int .i64 49) ∧ Hid (Up w6 w')) := by
      refine (loadR_all HP6.out.p.y HB6.out.1 (fun k => by have := HB6.out.2.1 k; have := HP6.out.p.y1; have := HP6.out.p.y3; exact ⟨by omega, by omega⟩)).mono ?_
      rintro e w' (⟨q1, q2, q3⟩ | ⟨q1, q2, q3, q4⟩)
      · exact ⟨q2, q3⟩
      · exact absurd q1 hT
    refine Calls.mono HLd.out ?_
    rintro e w7 ⟨rfl, hx⟩
    clear HLd
    have HP7 : Hid (Po W Q pb lo hi A Y (C) (C) S L H hf ob 5 a b c w7) := HP6.out.up hx.out
    have HB7 : Hid (Byts w7 sa4 sb4 so4 sn4 sc4 f4 ∧ (0 < sn4 → pb < sb4 ∧ sb4 < wc.heap.size) ∧ By w7 l M (lentF sn4 f4) ∧ pb < l ∧ wc.heap.size ≤ l) := by
      exact ⟨HB6.out.1.upB hx.out, HB6.out.2.1, HB6.out.2.2.1.up hx.out, HB6.out.2.2.2⟩
    clear HP6 HB6 hx k1
    have HBk : Hid (Calls Tryd.prog 30 #[.slice (some ⟨l, 0, none⟩) M M, .slice sa4 sn4 sc4] w7 fun e w' => e = .returned (.bool true) ∧ Fr l w7 w') := by
      have hq : By w7 l (sn4 + 8) (lentF sn4 f4) := by rw [← HMe.out]; exact HB7.out.2.2.1
      rw [HMe.out]
      exact backB_any HB7.out.1 (by omega) hq
    go_wp2_with fail
    refine Calls.mono HBk.out ?_
    rintro e w8 ⟨rfl, fr⟩
    have HP8 : Hid _ := HP7.out.p.frF fr HB7.out.2.2.2.1 (HPx.out l HB7.out.2.2.2.2)
    clear HP7 HB7 HBk fr
    go_wp2_with fail
    go_ret
    exact ⟨by first | rfl | (simp; done), _, _, _, _, _, HP8.out, by omega⟩
end Go.Proofs.YtojlappgmckokaaDoor
