import Derived.Test.YteijdcidemajfaaAtK
/- Arena: holds. -/
namespace Go.Proofs.Yteijdcidemajfaa
open Go.RowKit
set_option linter.unusedVariables false
set_option linter.unusedSimpArgs false
variable {K K' O : Nat → Prop} {w w' W : World} {pb n : Nat} {P P' : Pl} {lv bv : Value} {ll bl hl L : List Loan} {C : Cx} {q : Int}
theorem lease_range {g cap i : Nat} {ls : List Loan} {x : Loan} {base : Nat} (h : w.ownsRow base 38 3 (.slice (some ⟨g, 0, none⟩) ls.length cap) ls.length (leaseCells ls)) (hx : ls[i]? = some x) : w.rangeAt g (i * 3) [.int .i64 (x.buf : Int), .int .i64 (x.cls : Int), .int .i64 (x.size : Int)] := by
  have hl := (List.getElem?_eq_some_iff.1 hx).1
  have f : ∀ r, r < 3 → w.cell? ⟨g, i * 3 + r, none⟩ = x.lease[r]? := fun r hr => by
    have := own_cell h (i * 3 + r) (by omega)
    rw [Nat.zero_add] at this
    rw [this]
    exact leaseCells_at ls i r x hx hr
  exact range3 (f 0 (by decide)) (f 1 (by decide)) (f 2 (by decide))
set_option maxRecDepth 100000 in
set_option maxHeartbeats 2000000 in
theorem sameLeases_yes {v1 v2 : Value} {l1 l2 : List Loan} {g1 g2 : Nat} (h1 : W.ownsRow g1 38 3 v1 l1.length (leaseCells l1)) (h2 : W.ownsRow g2 38 3 v2 l2.length (leaseCells l2)) (e : leaseCells l1 = leaseCells l2) (el : l1.length = l2.length) :
    Calls Try.prog 47 #[v1, v2] W fun e w' => e = .returned (.bool true) ∧ Up W w' := by
  rw [← e, ← el] at h2
  obtain ⟨a1, n1, c1, rfl⟩ := own_slice3 h1
  obtain ⟨a2, n2, c2, rfl⟩ := own_slice3 h2
  obtain ⟨e1, q1, q2⟩ : n1 = l1.length ∧ n1 ≤ c1 ∧ c1 ≤ 9223372036854775807 := by
    rcases own_cases h1 with ⟨hv, hn0, _⟩ | ⟨g, cap, hv, hc1, hm, _⟩
    · injection hv with _ e2 e3
      exact ⟨by omega, by omega, by omega⟩
    · injection hv with _ e2 e3
      unfold maxLen at hm
      exact ⟨e2, by omega, by omega⟩
  obtain ⟨e2, q3, q4⟩ : n2 = l1.length ∧ n2 ≤ c2 ∧ c2 ≤ 9223372036854775807 := by
    rcases own_cases h2 with ⟨hv, hn0, _⟩ | ⟨g, cap, hv, hc1, hm, _⟩
    · injection hv with _ e2 e3
      exact ⟨by omega, by omega, by omega⟩
    · injection hv with _ e2 e3
      unfold maxLen at hm
      exact ⟨e2, by omega, by omega⟩
  subst e1 e2
  have HR : Hid (∀ w, Up W w → ∀ i x, l1[i]? = some x → ∃ b1 b2, a1 = some ⟨b1, 0, none⟩ ∧ a2 = some ⟨b2, 0, none⟩ ∧ w.rangeAt b1 (i * 3) [.int .i64 (x.buf : Int), .int .i64 (x.cls : Int), .int .i64 (x.size : Int)] ∧ w.rangeAt b2 (i * 3) [.int .i64 (x.buf : Int), .int .i64 (x.cls : Int), .int .i64 (x.size : Int)]) := fun w u i x hx => by
    have hil := (List.getElem?_eq_some_iff.1 hx).1
    have r1 := ownsRow_up h1 u
    have r2 := ownsRow_up h2 u
    rcases own_cases h1 with ⟨hv, hn0, _⟩ | ⟨b1, cap1, hv1, _⟩
    · omega
    rcases own_cases h2 with ⟨hv, hn0, _⟩ | ⟨b2, cap2, hv2, _⟩
    · omega
    rw [hv1] at r1
    rw [hv2] at r2
    injection hv1 with hv1 _ _
    injection hv2 with hv2 _ _
    exact ⟨b1, b2, hv1, hv2, lease_range r1 hx, lease_range r2 hx⟩
  have HU : Hid (Up W W) := Up.refl W
  have hnn : ((l1.length : Int) == (l1.length : Int)) = true := by simp
  clear h1 h2 e el
  go_enter Try.func47, Try.ntmps47
  go_wp2_with fail
  go_loopw [5] (fun I wr => ∃ i : Nat, i ≤ l1.length ∧ I = .int .i64 i ∧ Hid (Up W wr)) (fun I _ => l1.length - (intOf I).toNat)
  case atStart => exact ⟨0, by omega, rfl, HU⟩
  case round =>
    clear HU
    obtain ⟨i, hi, rfl, HU⟩ := hrel
    by_cases hlt : i < l1.length
    · have e1 : (i : Int) < (l1.length : Int) := by omega
      obtain ⟨x, hx⟩ : ∃ x, l1[i]? = some x := ⟨_, List.getElem?_eq_getElem hlt⟩
      obtain ⟨b1, b2, rfl, rfl, _⟩ := HR.out wr HU.out i x hx
      have HS : Hid (∀ w, Up W w → w.rangeAt b1 (i * 3) [.int .i64 (x.buf : Int), .int .i64 (x.cls : Int), .int .i64 (x.size : Int)] ∧ w.rangeAt b2 (i * 3) [.int .i64 (x.buf : Int), .int .i64 (x.cls : Int), .int .i64 (x.size : Int)]) := fun w u => by
        obtain ⟨b1', b2', f1, f2, f3, f4⟩ := HR.out w u i x hx
        have f1 : (⟨b1, 0, none⟩ : Addr) = ⟨b1', 0, none⟩ := Option.some.inj f1
        injection f1 with f1
        subst f1
        have f2 : (⟨b2, 0, none⟩ : Addr) = ⟨b2', 0, none⟩ := Option.some.inj f2
        injection f2 with f2
        subst f2
        exact ⟨f3, f4⟩
      clear hx HR
      go_wp2_with fail
      have HV : Hid (Up W wr.drew) := HU.out.drew
      refine wp_region_held_drew (S := fun w : World => w.rangeAt b1 (i * 3) [.int .i64 (x.buf : Int), .int .i64 (x.cls : Int), .int .i64 (x.size : Int)] ∧ w.rangeAt b2 (i * 3) [.int .i64 (x.buf : Int), .int .i64 (x.cls : Int), .int .i64 (x.size : Int)]) (by kernel_rfl) ?_ (fun hHeld => ?_)
      · exact HS.out _ HV.out
      refine wpAnyH_take (i := 0) (v := ?_) (by simp only [List.getElem?_toArray, List.getElem?_cons_zero]; rfl) (by kernel_rfl) (by kernel_rfl) (by kernel_rfl) (by intro _ _ _ h; exact h) (Or.inl ⟨by rfl, ?_⟩) (by assumption) ?_
      rotate_left
      · (intro w hSw; (try dsimp only at hSw); go_simp <;> with_reducible rfl)
      try simp only [Act.put, List.setIfInBounds_toArray, List.set_cons_zero, List.set_cons_succ]
      refine wpAnyH_take (i := 1) (v := ?_) (by simp only [List.getElem?_toArray, List.getElem?_cons_succ, List.getElem?_cons_zero]; rfl) (by kernel_rfl) (by kernel_rfl) (by kernel_rfl) (by intro _ _ _ h; exact h) (Or.inl ⟨by rfl, ?_⟩) (by assumption) ?_
      rotate_left
      · (intro w hSw; (try dsimp only at hSw); go_simp <;> with_reducible rfl)
      try simp only [Act.put, List.setIfInBounds_toArray, List.set_cons_zero, List.set_cons_succ]
      refine wpAnyH_take (i := 2) (v := ?_) (by simp only [List.getElem?_toArray, List.getElem?_cons_succ, List.getElem?_cons_zero]; rfl) (by kernel_rfl) (by kernel_rfl) (by kernel_rfl) (by intro _ _ _ h; exact h) (Or.inl ⟨by rfl, ?_⟩) (by assumption) ?_
      rotate_left
      · (intro w hSw; (try dsimp only at hSw); go_simp <;> with_reducible rfl)
      try simp only [Act.put, List.setIfInBounds_toArray, List.set_cons_zero, List.set_cons_succ]
      refine wpAnyH_take (i := 3) (v := .agg [.int .i64 (x.buf : Int), .int .i64 (x.cls : Int), .int .i64 (x.size : Int)].toArray) (by simp only [List.getElem?_toArray, List.getElem?_cons_succ, List.getElem?_cons_zero]; rfl) (by kernel_rfl) (by kernel_rfl) (by kernel_rfl) (by intro _ _ _ h; exact h) (yieldsIf_load_mid (by rfl) 38 _ rfl b1 (i * 3) rfl [.int .i64 (x.buf : Int), .int .i64 (x.cls : Int), .int .i64 (x.size : Int)] _ (fun w hw => hw.1) Try.underlying38 rfl (by kernel_rfl)) (by assumption) ?_
      simp only [Act.put, List.setIfInBounds_toArray, List.set_cons_zero, List.set_cons_succ]
      refine wpAnyH_take (i := 4) (v := ?_) (by simp only [List.getElem?_toArray, List.getElem?_cons_succ, List.getElem?_cons_zero]; rfl) (by kernel_rfl) (by kernel_rfl) (by kernel_rfl) (by intro _ _ _ h; exact h) (Or.inl ⟨by rfl, ?_⟩) (by assumption) ?_
      rotate_left
      · (intro w hSw; (try dsimp only at hSw); go_simp <;> with_reducible rfl)
      try simp only [Act.put, List.setIfInBounds_toArray, List.set_cons_zero, List.set_cons_succ]
      refine wpAnyH_take (i := 5) (v := ?_) (by simp only [List.getElem?_toArray, List.getElem?_cons_succ, List.getElem?_cons_zero]; rfl) (by kernel_rfl) (by kernel_rfl) (by kernel_rfl) (by intro _ _ _ h; exact h) (Or.inl ⟨by rfl, ?_⟩) (by assumption) ?_
      rotate_left
      · (intro w hSw; (try dsimp only at hSw); go_simp <;> with_reducible rfl)
      try simp only [Act.put, List.setIfInBounds_toArray, List.set_cons_zero, List.set_cons_succ]
      refine wpAnyH_take (i := 6) (v := ?_) (by simp only [List.getElem?_toArray, List.getElem?_cons_succ, List.getElem?_cons_zero]; rfl) (by kernel_rfl) (by kernel_rfl) (by kernel_rfl) (by intro _ _ _ h; exact h) (Or.inl ⟨by rfl, ?_⟩) (by assumption) ?_
      rotate_left
      · (intro w hSw; (try dsimp only at hSw); go_simp <;> with_reducible rfl)
      try simp only [Act.put, List.setIfInBounds_toArray, List.set_cons_zero, List.set_cons_succ]
      refine wpAnyH_take (i := 7) (v := .agg [.int .i64 (x.buf : Int), .int .i64 (x.cls : Int), .int .i64 (x.size : Int)].toArray) (by simp only [List.getElem?_toArray, List.getElem?_cons_succ, List.getElem?_cons_zero]; rfl) (by kernel_rfl) (by kernel_rfl) (by kernel_rfl) (by intro _ _ _ h; exact h) (yieldsIf_load_mid (by rfl) 38 _ rfl b2 (i * 3) rfl [.int .i64 (x.buf : Int), .int .i64 (x.cls : Int), .int .i64 (x.size : Int)] _ (fun w hw => hw.2) Try.underlying38 rfl (by kernel_rfl)) (by assumption) ?_
      simp only [Act.put, List.setIfInBounds_toArray, List.set_cons_zero, List.set_cons_succ]
      refine wpAnyH_take (i := 8) (v := ?_) (by simp only [List.getElem?_toArray, List.getElem?_cons_succ, List.getElem?_cons_zero]; rfl) (by kernel_rfl) (by kernel_rfl) (by kernel_rfl) (by intro _ _ _ h; exact h) (Or.inl ⟨by rfl, ?_⟩) (by assumption) ?_
      rotate_left
      · (intro w hSw; (try dsimp only at hSw); go_simp <;> with_reducible rfl)
      try simp only [Act.put, List.setIfInBounds_toArray, List.set_cons_zero, List.set_cons_succ]
      refine wpAnyH_done (by kernel_rfl) ?_ _
      clear hHeld HS HU
      generalize World.drew wr = w2 at HV ⊢
      go_wp2_with fail
      refine ⟨⟨i + 1, by omega, by first | rfl | (simp; done), HV⟩, ?_⟩
      simp [intOf]
      try omega
    · have e1 : ¬ (i : Int) < (l1.length : Int) := by omega
      clear HR
      go_wp2_with fail
      go_ret
      exact ⟨by first | rfl | (simp; done), HU.out⟩
end Go.Proofs.Yteijdcidemajfaa
/- Arena: holds. -/
namespace Go.Proofs.Yteijdcidemajfaa
open Go.RowKit
set_option linter.unusedVariables false
set_option linter.unusedSimpArgs false
section
variable {P : Program} {w : World} {ops : Array Oper} {rest : List Oper} {o : Oper} {a : Act} {Q : Exit → Act → World → Prop}
theorem wpList_on (hw : Region.wanted o (yielded ops a.tmps) = true) (h : o.wp P a w (wpList P ops Q rest) Q) : wpList P ops Q (o :: rest) a w := by
  unfold wpList
  rw [if_pos hw]
  exact Or.inl h
end
variable {K K' O : Nat → Prop} {w w' W : World} {pb n i : Nat} {P P' : Pl} {lv bv : Value} {ll bl hl L : List Loan} {C : Cx} {q : Int}
theorem span_at {k : Nat} {m : Loan} (ok : Ok P) (hc : Cs n P) (ha : P.ars[i]? = some (some ⟨q, L⟩)) (hk : L[k]? = some m) : P.span (i : Int) (m.buf : Int) 0 (m.size : Int) = .ok m 0 m.size := by
  have hpl := place_at ok hc ha hk
  unfold Pl.span
  rw [Pl.arn_nat ha]
  dsimp only
  rw [hpl]
  have hk' : (Arn.mk q L).loans[k]? = some m := hk
  rw [hk']
  dsimp only
  rw [if_neg (by omega), Int.toNat_natCast]
  rfl
set_option maxRecDepth 100000 in
set_option maxHeartbeats 4000000 in
theorem holds_any (hp : Pb W K pb P w) (hh : Ht O w lv bv hl hl) (ha : P.ars[i]? = some (some ⟨q, L⟩)) (hk : keys L = keys hl) (hc : Cs n P) :
    Calls Try.prog 26 #[.pointer (some ⟨pb, 0, none⟩), .agg #[.int .i64 (i : Int), lv, bv]] w fun e w' => e = .returned (.bool true) ∧ Up w w' := by
  have hil : i ≤ 64 := by
    have := (List.getElem?_eq_some_iff.1 ha).1
    have := hp.ok.na
    omega
  have hl4 : hl.length ≤ 4096 := by rw [← keys_len hk]; exact hp.ok.loans ha
  have HSz : Hid (∀ l ∈ hl, l.size ≤ 65536) := keys_le hk (fun l hl' => (hp.ok.size ha hl').2)
  obtain ⟨va, vn, vc, rfl⟩ := own_slice3 hh.lo
  obtain ⟨ua, un, uc, rfl⟩ := own_slice3 hh.bo
  obtain ⟨hvn, hvc1, hvc2⟩ : vn = hl.length ∧ vn ≤ vc ∧ vc ≤ 9223372036854775807 := by
    rcases own_cases hh.lo with ⟨hv, hn0, _⟩ | ⟨g, cap, hv, hc1, hm, _⟩
    · injection hv with _ e2 e3
      exact ⟨by omega, by omega, by omega⟩
    · injection hv with _ e2 e3
      unfold maxLen at hm
      exact ⟨e2, by omega, by omega⟩
  subst hvn
  obtain ⟨hun, huc1, huc2⟩ : un = hl.length ∧ un ≤ uc ∧ uc ≤ 9223372036854775807 := by
    rcases own_cases hh.bo with ⟨hv, hn0, _⟩ | ⟨g, cap, hv, hc1, hm, _⟩
    · injection hv with _ e2 e3
      exact ⟨by omega, by omega, by omega⟩
    · injection hv with _ e2 e3
      unfold maxLen at hm
      exact ⟨e2, by omega, by omega⟩
  subst hun
  have hsz : sizes hl ≤ 65536 * 4096 := by
    have := sizes_le (ls := hl) HSz.out
    have h2 : 65536 * hl.length ≤ 65536 * 4096 := Nat.mul_le_mul_left _ hl4
    omega
  have HB0 : Hid (Up w (w.alloc (.cells #[.int .i64 (i : Int), .slice va hl.length vc, .slice ua hl.length uc] 56)) ∧ (w.alloc (.cells #[.int .i64 (i : Int), .slice va hl.length vc, .slice ua hl.length uc] 56)).heap[w.heap.size]? = some (.cells #[.int .i64 (i : Int), .slice va hl.length vc, .slice ua hl.length uc] 56 (0, 0))) := ⟨(Up.refl w).alloc _, heap_alloc_new w _⟩
  have HLe : Hid (∀ w', Up w w' → Calls Try.prog 17 #[.pointer (some ⟨pb, 0, none⟩), .int .i64 (i : Int)] w' fun e w2 => ∃ v, e = .returned v ∧ w2.ownsRow w'.heap.size 38 3 v L.length (leaseCells L) ∧ Up w' w2) := fun w' u => by
    obtain ⟨R, A, h1⟩ := (hp.more u).at'
    exact (leases_ok h1 hp.ok ha).mono fun e w2 ⟨v, g1, g2⟩ => ⟨v, g1, g2.own, g2.up⟩
  have HUs : Hid (∀ w', Up w w' → Calls Try.prog 16 #[.pointer (some ⟨pb, 0, none⟩), .int .i64 (i : Int)] w' fun e w2 => e = .returned (.tuple #[.int .i64 (sizes hl : Nat), .int .i64 0]) ∧ Up w' w2) := fun w' u => by
    have := (hp.more u).used ha
    rw [show sizes (Arn.mk q L).loans = sizes hl from keys_sizes hk] at this
    exact this
  have HSl : Hid (∀ w' v g, Up w w' → w'.ownsRow g 38 3 v L.length (leaseCells L) → Calls Try.prog 47 #[v, .slice va hl.length vc] w' fun e w2 => e = .returned (.bool true) ∧ Up w' w2) := fun w' v g u ho => sameLeases_yes ho (ownsRow_up hh.lo u) (keys_leases hk) (keys_len hk)
  have HSi : Hid (∀ w', Up w w' → Calls Try.prog 24 #[.agg #[.int .i64 (i : Int), .slice va hl.length vc, .slice ua hl.length uc]] w' fun e w2 => e = .returned (.int .i64 (sizes hl : Nat)) ∧ Up w' w2) := fun w' u => size_any (ownsRow_up hh.lo u) HSz.out (by omega)
  have HLd : Hid (∀ (w' : World) (k : Nat) (l : Loan), Up w w' → hl[k]? = some l → Calls Try.prog 20 #[.pointer (some ⟨pb, 0, none⟩), .int .i64 (i : Int), .int .i64 (l.buf : Int), .int .i64 0, .int .i64 (l.size : Int)] w' fun e w2 => ∃ g cap, e = .returned (.tuple #[.slice (some ⟨g, 0, none⟩) l.size cap, .int .i64 0]) ∧ Lst w2 g l.size cap l.f ∧ Up w' w2) := fun w' k l u hl' => by
    obtain ⟨m, hm, hmk⟩ := keys_at hk.symm hl'
    have hsp := span_at hp.ok hc ha hm
    have hms := hp.ok.size ha (List.mem_of_getElem? hm)
    obtain ⟨x, hx, _⟩ := hp.ok.ln i _ m ha (List.mem_of_getElem? hm)
    have hbr := buf_range hp.ok ha hm hx
    have hmy := hp.ok.my _ x hx
    injection hmk with e1 hmk
    injection hmk with e2 hmk
    injection hmk with e3 e4
    rw [e1, e3] at hsp
    refine ((hp.more u).load (b := (l.buf : Int)) (n := (l.size : Int)) ⟨by omega, by omega⟩ ⟨by omega, by omega⟩ ⟨by decide, by decide⟩ ⟨by omega, by omega⟩ hsp).mono fun e w2 ⟨g, cap, g1, _, g2, g3⟩ => ⟨g, cap, g1, ?_, g3⟩
    rw [← e4]
    exact ⟨g2.lt, g2.nc, g2.cm, fun j hj => by have := g2.cell j hj; rwa [Nat.zero_add] at this⟩
  have HKt : Hid (∀ (w' : World) (k : Nat) (l : Loan), Up w w' → hl[k]? = some l → ∃ lg ug, va = some ⟨lg, 0, none⟩ ∧ ua = some ⟨ug, 0, none⟩ ∧ w'.cell? ⟨lg, k * 3, none⟩ = some (.int .i64 (l.buf : Int)) ∧ w'.cell? ⟨lg, k * 3 + 2, none⟩ = some (.int .i64 (l.size : Int)) ∧ w'.cell? ⟨ug, k, none⟩ = some (.slice (some ⟨l.blk, 0, none⟩) l.size l.size) ∧ Lst w' l.blk l.size l.size l.f) := fun w' k l u hl' => by
    have hkl := (List.getElem?_eq_some_iff.1 hl').1
    have lo := ownsRow_up hh.lo u
    have bo := ownsRow_up hh.bo u
    rcases own_cases hh.lo with ⟨_, hn0, _⟩ | ⟨lg, c1, hv1, _⟩
    · omega
    rcases own_cases hh.bo with ⟨_, hn0, _⟩ | ⟨ug, c2, hv2, _⟩
    · omega
    rw [hv1] at lo
    rw [hv2] at bo
    injection hv1 with hv1 _ _
    injection hv2 with hv2 _ _
    have lc : ∀ r, r < 3 → w'.cell? ⟨lg, k * 3 + r, none⟩ = l.lease[r]? := fun r hr => by
      have := own_cell lo (k * 3 + r) (by omega)
      rw [Nat.zero_add] at this
      rw [this]
      exact leaseCells_at hl k r l hl' hr
    have bc := own_cell bo k (by omega)
    rw [Nat.zero_add, byteCells_at hl'] at bc
    have nm := (hh.by' l (List.mem_of_getElem? hl'))
    have nm' := nm.of_block (u.block _ nm.lt)
    exact ⟨lg, ug, hv1, hv2, lc 0 (by decide), lc 2 (by decide), bc, Lst.ofNm nm' (HSz.out l (List.mem_of_getElem? hl'))⟩
  have hss : ((sizes hl : Int) == (sizes hl : Int)) = true := by simp
  clear hp hh ha hk hc
  go_enter Try.func26, Try.ntmps26
  go_wp2_with fail
  generalize World.alloc w _ = w1 at HB0 ⊢
  generalize w.heap.size = hb at HB0 ⊢
  have HBx : Hid (∀ w', Up w1 w' → Up w w' ∧ w'.heap[hb]? = some (.cells #[.int .i64 (i : Int), .slice va hl.length vc, .slice ua hl.length uc] 56 (0, 0))) := fun w' u => ⟨HB0.out.1.trans u, (u.block _ (heap_at HB0.out.2)).trans HB0.out.2⟩
  clear HB0
  refine (HLe.out w1 (HBx.out w1 (Up.refl w1)).1).mono ?_
  rintro e w2 ⟨v, rfl, o2, u2⟩
  obtain ⟨la, lm, lc, rfl⟩ := own_slice3 o2
  have H2 : Hid (Up w1 w2 ∧ w2.ownsRow w1.heap.size 38 3 (.slice la lm lc) L.length (leaseCells L)) := ⟨u2, o2⟩
  clear o2 u2 HLe
  have k20 : w2.cell? ⟨hb, 0, none⟩ = some (.int .i64 (i : Int)) := heap_cell (HBx.out w2 H2.out.1).2 rfl
  go_wp2_with fail
  refine (HUs.out w2 (HBx.out w2 H2.out.1).1).mono ?_
  rintro e w3 ⟨rfl, u3⟩
  have H3 : Hid (Up w1 w3 ∧ w3.ownsRow w1.heap.size 38 3 (.slice la lm lc) L.length (leaseCells L)) := ⟨H2.out.1.trans u3, ownsRow_up H2.out.2 u3⟩
  clear u3 H2 HUs k20
  have k31 : w3.cell? ⟨hb, 1, none⟩ = some (.slice va hl.length vc) := heap_cell (HBx.out w3 H3.out.1).2 rfl
  go_wp2_with fail
  refine (HSl.out w3 _ _ (HBx.out w3 H3.out.1).1 H3.out.2).mono ?_
  rintro e w4 ⟨rfl, u4⟩
  have H4 : Hid (Up w1 w4) := H3.out.1.trans u4
  clear u4 H3 HSl k31
  have HR4 : Hid (w4.rangeAt hb 0 [.int .i64 (i : Int), .slice va hl.length vc, .slice ua hl.length uc]) := range3 (heap_cell (HBx.out w4 H4.out).2 rfl) (heap_cell (HBx.out w4 H4.out).2 rfl) (heap_cell (HBx.out w4 H4.out).2 rfl)
  go_wp2_with (refine wpList_on rfl (wp_load_mid 56 _ rfl hb 0 rfl [.int .i64 (i : Int), .slice va hl.length vc, .slice ua hl.length uc] _ HR4.out Try.underlying56 rfl (by kernel_rfl) ?_))
  refine (HSi.out w4 (HBx.out w4 H4.out).1).mono ?_
  rintro e w5 ⟨rfl, u5⟩
  have H5 : Hid (Up w1 w5) := H4.out.trans u5
  clear u5 H4 HR4 HSi
  go_wp2_with fail
  go_loopw [9, 10, 11] (fun I _ _ wr => ∃ k : Nat, k ≤ hl.length ∧ I = .int .i64 k ∧ Hid (Up w1 wr)) (fun I _ _ _ => hl.length - (intOf I).toNat)
  case atStart => exact ⟨0, Nat.zero_le _, rfl, H5⟩
  case round =>
    clear H5
    obtain ⟨k, hk, rfl, M0⟩ := hrel
    have k1 : wr.cell? ⟨hb, 1, none⟩ = some (.slice va hl.length vc) := heap_cell (HBx.out wr M0.out).2 rfl
    by_cases hlt : k < hl.length
    · have d1 : (k : Int) < (hl.length : Int) := by omega
      obtain ⟨l, hx⟩ : ∃ l, hl[k]? = some l := ⟨_, List.getElem?_eq_getElem hlt⟩
      obtain ⟨lg, ug, rfl, rfl, _⟩ := HKt.out wr k l (HBx.out wr M0.out).1 hx
      have HS : Hid (∀ w', Up w1 w' → w'.cell? ⟨hb, 0, none⟩ = some (.int .i64 (i : Int)) ∧ w'.cell? ⟨hb, 1, none⟩ = some (.slice (some ⟨lg, 0, none⟩) hl.length vc) ∧ w'.cell? ⟨lg, k * 3, none⟩ = some (.int .i64 (l.buf : Int)) ∧ w'.cell? ⟨lg, k * 3 + 2, none⟩ = some (.int .i64 (l.size : Int))) := fun w' u => by
        have hb' := (HBx.out w' u).2
        obtain ⟨lg', ug', e1, e2, q1, q2, _⟩ := HKt.out w' k l (HBx.out w' u).1 hx
        have e1 : (⟨lg, 0, none⟩ : Addr) = ⟨lg', 0, none⟩ := Option.some.inj e1
        injection e1 with e1
        subst e1
        exact ⟨heap_cell hb' rfl, heap_cell hb' rfl, q1, q2⟩
      have HS2 : Hid (∀ w', Up w1 w' → w'.cell? ⟨hb, 2, none⟩ = some (.slice (some ⟨ug, 0, none⟩) hl.length uc) ∧ w'.cell? ⟨ug, k, none⟩ = some (.slice (some ⟨l.blk, 0, none⟩) l.size l.size) ∧ (convert 45 9 (.slice (some ⟨l.blk, 0, none⟩) l.size l.size)).run Try.prog w' = .ok (.string (strN l.size l.f)) w') := fun w' u => by
        have hb' := (HBx.out w' u).2
        obtain ⟨lg', ug', e1, e2, q1, q2, q3, q4⟩ := HKt.out w' k l (HBx.out w' u).1 hx
        have e2 : (⟨ug, 0, none⟩ : Addr) = ⟨ug', 0, none⟩ := Option.some.inj e2
        injection e2 with e2
        subst e2
        exact ⟨heap_cell hb' rfl, q3, q4.conv⟩
      have HLx : Hid (∀ w', Up w1 w' → _) := fun w' u => HLd.out w' k l (HBx.out w' u).1 hx
      clear hx HKt HLd
      go_wp2_with fail
      refine wp_region_held_drew (S := fun w' : World => w'.cell? ⟨hb, 0, none⟩ = some (.int .i64 (i : Int)) ∧ w'.cell? ⟨hb, 1, none⟩ = some (.slice (some ⟨lg, 0, none⟩) hl.length vc) ∧ w'.cell? ⟨lg, k * 3, none⟩ = some (.int .i64 (l.buf : Int)) ∧ w'.cell? ⟨lg, k * 3 + 2, none⟩ = some (.int .i64 (l.size : Int))) (by kernel_rfl) ?_ (fun hHeld => ?_)
      · exact HS.out _ M0.out.drew
      have M1 : Hid (Up w1 wr.drew) := M0.out.drew
      clear M0 k1
      generalize World.drew wr = wd at M1 hHeld ⊢
      refine wpAnyH_take (i := 0) (v := ?_) (by simp only [List.getElem?_toArray, List.getElem?_cons_zero]; rfl) (by kernel_rfl) (by kernel_rfl) (by kernel_rfl) (by intro _ _ _ h; exact h) (Or.inl ⟨by rfl, ?_⟩) (by assumption) ?_
      rotate_left
      · (intro w hSw; (try dsimp only at hSw); go_simp <;> with_reducible rfl)
      try simp only [Act.put, List.setIfInBounds_toArray, List.set_cons_zero, List.set_cons_succ]
      refine wpAnyH_take (i := 1) (v := ?_) (by simp only [List.getElem?_toArray, List.getElem?_cons_succ, List.getElem?_cons_zero]; rfl) (by kernel_rfl) (by kernel_rfl) (by kernel_rfl) (by intro _ _ _ h; exact h) (Or.inl ⟨by rfl, ?_⟩) (by assumption) ?_
      rotate_left
      · (intro w hSw; (try dsimp only at hSw); go_simp <;> with_reducible rfl)
      try simp only [Act.put, List.setIfInBounds_toArray, List.set_cons_zero, List.set_cons_succ]
      refine wpAnyH_take (i := 2) (v := ?_) (by simp only [List.getElem?_toArray, List.getElem?_cons_succ, List.getElem?_cons_zero]; rfl) (by kernel_rfl) (by kernel_rfl) (by kernel_rfl) (by intro _ _ _ h; exact h) (Or.inl ⟨by rfl, ?_⟩) (by assumption) ?_
      rotate_left
      · (intro w hSw; (try dsimp only at hSw); go_simp <;> with_reducible rfl)
      try simp only [Act.put, List.setIfInBounds_toArray, List.set_cons_zero, List.set_cons_succ]
      refine wpAnyH_take (i := 3) (v := ?_) (by simp only [List.getElem?_toArray, List.getElem?_cons_succ, List.getElem?_cons_zero]; rfl) (by kernel_rfl) (by kernel_rfl) (by kernel_rfl) (by intro _ _ _ h; exact h) (Or.inl ⟨by rfl, ?_⟩) (by assumption) ?_
      rotate_left
      · (intro w hSw; (try dsimp only at hSw); go_simp <;> with_reducible rfl)
      try simp only [Act.put, List.setIfInBounds_toArray, List.set_cons_zero, List.set_cons_succ]
      refine wpAnyH_take (i := 4) (v := ?_) (by simp only [List.getElem?_toArray, List.getElem?_cons_succ, List.getElem?_cons_zero]; rfl) (by kernel_rfl) (by kernel_rfl) (by kernel_rfl) (by intro _ _ _ h; exact h) (Or.inl ⟨by rfl, ?_⟩) (by assumption) ?_
      rotate_left
      · (intro w hSw; (try dsimp only at hSw); go_simp <;> with_reducible rfl)
      try simp only [Act.put, List.setIfInBounds_toArray, List.set_cons_zero, List.set_cons_succ]
      refine wpAnyH_take (i := 5) (v := ?_) (by simp only [List.getElem?_toArray, List.getElem?_cons_succ, List.getElem?_cons_zero]; rfl) (by kernel_rfl) (by kernel_rfl) (by kernel_rfl) (by intro _ _ _ h; exact h) (Or.inl ⟨by rfl, ?_⟩) (by assumption) ?_
      rotate_left
      · (intro w hSw; (try dsimp only at hSw); go_simp <;> with_reducible rfl)
      try simp only [Act.put, List.setIfInBounds_toArray, List.set_cons_zero, List.set_cons_succ]
      refine wpAnyH_take (i := 6) (v := ?_) (by simp only [List.getElem?_toArray, List.getElem?_cons_succ, List.getElem?_cons_zero]; rfl) (by kernel_rfl) (by kernel_rfl) (by kernel_rfl) (by intro _ _ _ h; exact h) (Or.inl ⟨by rfl, ?_⟩) (by assumption) ?_
      rotate_left
      · (intro w hSw; (try dsimp only at hSw); go_simp <;> with_reducible rfl)
      try simp only [Act.put, List.setIfInBounds_toArray, List.set_cons_zero, List.set_cons_succ]
      refine wpAnyH_take (i := 7) (v := ?_) (by simp only [List.getElem?_toArray, List.getElem?_cons_succ, List.getElem?_cons_zero]; rfl) (by kernel_rfl) (by kernel_rfl) (by kernel_rfl) (by intro _ _ _ h; exact h) (Or.inl ⟨by rfl, ?_⟩) (by assumption) ?_
      rotate_left
      · (intro w hSw; (try dsimp only at hSw); go_simp <;> with_reducible rfl)
      try simp only [Act.put, List.setIfInBounds_toArray, List.set_cons_zero, List.set_cons_succ]
      refine wpAnyH_take (i := 8) (v := ?_) (by simp only [List.getElem?_toArray, List.getElem?_cons_succ, List.getElem?_cons_zero]; rfl) (by kernel_rfl) (by kernel_rfl) (by kernel_rfl) (by intro _ _ _ h; exact h) (Or.inl ⟨by rfl, ?_⟩) (by assumption) ?_
      rotate_left
      · (intro w hSw; (try dsimp only at hSw); go_simp <;> with_reducible rfl)
      try simp only [Act.put, List.setIfInBounds_toArray, List.set_cons_zero, List.set_cons_succ]
      refine wpAnyH_take (i := 9) (v := ?_) (by simp only [List.getElem?_toArray, List.getElem?_cons_succ, List.getElem?_cons_zero]; rfl) (by kernel_rfl) (by kernel_rfl) (by kernel_rfl) (by intro _ _ _ h; exact h) (Or.inl ⟨by rfl, ?_⟩) (by assumption) ?_
      rotate_left
      · (intro w hSw; (try dsimp only at hSw); go_simp <;> with_reducible rfl)
      try simp only [Act.put, List.setIfInBounds_toArray, List.set_cons_zero, List.set_cons_succ]
      refine wpAnyH_take (i := 10) (v := ?_) (by simp only [List.getElem?_toArray, List.getElem?_cons_succ, List.getElem?_cons_zero]; rfl) (by kernel_rfl) (by kernel_rfl) (by kernel_rfl) (by intro _ _ _ h; exact h) (Or.inl ⟨by rfl, ?_⟩) (by assumption) ?_
      rotate_left
      · (intro w hSw; (try dsimp only at hSw); go_simp <;> with_reducible rfl)
      try simp only [Act.put, List.setIfInBounds_toArray, List.set_cons_zero, List.set_cons_succ]
      refine wpAnyH_take (i := 11) (v := ?_) (by simp only [List.getElem?_toArray, List.getElem?_cons_succ, List.getElem?_cons_zero]; rfl) (by kernel_rfl) (by kernel_rfl) (by kernel_rfl) (by intro _ _ _ h; exact h) (Or.inl ⟨by rfl, ?_⟩) (by assumption) ?_
      rotate_left
      · (intro w hSw; (try dsimp only at hSw); go_simp <;> with_reducible rfl)
      try simp only [Act.put, List.setIfInBounds_toArray, List.set_cons_zero, List.set_cons_succ]
      refine wpAnyH_take (i := 12) (v := ?_) (by simp only [List.getElem?_toArray, List.getElem?_cons_succ, List.getElem?_cons_zero]; rfl) (by kernel_rfl) (by kernel_rfl) (by kernel_rfl) (by intro _ _ _ h; exact h) (Or.inl ⟨by rfl, ?_⟩) (by assumption) ?_
      rotate_left
      · (intro w hSw; (try dsimp only at hSw); go_simp <;> with_reducible rfl)
      try simp only [Act.put, List.setIfInBounds_toArray, List.set_cons_zero, List.set_cons_succ]
      refine wpAnyH_take (i := 13) (v := ?_) (by simp only [List.getElem?_toArray, List.getElem?_cons_succ, List.getElem?_cons_zero]; rfl) (by kernel_rfl) (by kernel_rfl) (by kernel_rfl) (by intro _ _ _ h; exact h) (Or.inl ⟨by rfl, ?_⟩) (by assumption) ?_
      rotate_left
      · (intro w hSw; (try dsimp only at hSw); go_simp <;> with_reducible rfl)
      try simp only [Act.put, List.setIfInBounds_toArray, List.set_cons_zero, List.set_cons_succ]
      refine wpAnyH_take (i := 14) (v := ?_) (by simp only [List.getElem?_toArray, List.getElem?_cons_succ, List.getElem?_cons_zero]; rfl) (by kernel_rfl) (by kernel_rfl) (by kernel_rfl) (by intro _ _ _ h; exact h) (Or.inl ⟨by rfl, ?_⟩) (by assumption) ?_
      rotate_left
      · (intro w hSw; (try dsimp only at hSw); go_simp <;> with_reducible rfl)
      try simp only [Act.put, List.setIfInBounds_toArray, List.set_cons_zero, List.set_cons_succ]
      refine wpAnyH_ready (rs := [15]) (by kernel_rfl) (by simp) ?_
      refine AllReadyH.cons (by simp only [List.getElem?_toArray, List.getElem?_cons_succ, List.getElem?_cons_zero]; rfl) (fun KK hK => ?_) AllReadyH.nil
      go_simp
      refine (HLx.out wd M1.out).mono ?_
      rintro e w6 ⟨g6, c6, rfl, l6, u6⟩
      have M2 : Hid (Up w1 w6 ∧ Lst w6 g6 l.size c6 l.f) := ⟨M1.out.trans u6, l6⟩
      clear l6 u6 M1
      refine hK.out _ _ (HS.out _ M2.out.1) (fun hHeld => ?_)
      clear hK KK
      try simp only [Act.put, List.setIfInBounds_toArray, List.set_cons_zero, List.set_cons_succ]
      refine wpAnyH_take (i := 16) (v := ?_) (by simp only [List.getElem?_toArray, List.getElem?_cons_succ, List.getElem?_cons_zero]; rfl) (by kernel_rfl) (by kernel_rfl) (by kernel_rfl) (by intro _ _ _ h; exact h) (Or.inl ⟨by rfl, ?_⟩) (by assumption) ?_
      rotate_left
      · (intro w hSw; (try dsimp only at hSw); go_simp <;> with_reducible rfl)
      try simp only [Act.put, List.setIfInBounds_toArray, List.set_cons_zero, List.set_cons_succ]
      refine wpAnyH_take (i := 17) (v := ?_) (by simp only [List.getElem?_toArray, List.getElem?_cons_succ, List.getElem?_cons_zero]; rfl) (by kernel_rfl) (by kernel_rfl) (by kernel_rfl) (by intro _ _ _ h; exact h) (Or.inl ⟨by rfl, ?_⟩) (by assumption) ?_
      rotate_left
      · (intro w hSw; (try dsimp only at hSw); go_simp <;> with_reducible rfl)
      try simp only [Act.put, List.setIfInBounds_toArray, List.set_cons_zero, List.set_cons_succ]
      refine wpAnyH_take (i := 18) (v := ?_) (by simp only [List.getElem?_toArray, List.getElem?_cons_succ, List.getElem?_cons_zero]; rfl) (by kernel_rfl) (by kernel_rfl) (by kernel_rfl) (by intro _ _ _ h; exact h) (Or.inl ⟨by rfl, ?_⟩) (by assumption) ?_
      rotate_left
      · (intro w hSw; (try dsimp only at hSw); go_simp <;> with_reducible rfl)
      try simp only [Act.put, List.setIfInBounds_toArray, List.set_cons_zero, List.set_cons_succ]
      refine wpAnyH_take (i := 19) (v := ?_) (by simp only [List.getElem?_toArray, List.getElem?_cons_succ, List.getElem?_cons_zero]; rfl) (by kernel_rfl) (by kernel_rfl) (by kernel_rfl) (by intro _ _ _ h; exact h) (Or.inl ⟨by rfl, ?_⟩) (by assumption) ?_
      rotate_left
      · (intro w hSw; (try dsimp only at hSw); go_simp <;> with_reducible rfl)
      try simp only [Act.put, List.setIfInBounds_toArray, List.set_cons_zero, List.set_cons_succ]
      refine wpAnyH_take (i := 20) (v := ?_) (by simp only [List.getElem?_toArray, List.getElem?_cons_succ, List.getElem?_cons_zero]; rfl) (by kernel_rfl) (by kernel_rfl) (by kernel_rfl) (by intro _ _ _ h; exact h) (Or.inl ⟨by rfl, ?_⟩) (by assumption) ?_
      rotate_left
      · (intro w hSw; (try dsimp only at hSw); go_simp <;> with_reducible rfl)
      try simp only [Act.put, List.setIfInBounds_toArray, List.set_cons_zero, List.set_cons_succ]
      refine wpAnyH_done (by kernel_rfl) ?_ _
      clear hHeld HS HLx
      go_wp2_with fail
      have HS3 : Hid (∀ w', Up w6 w' → (convert 45 9 (.slice (some ⟨g6, 0, none⟩) l.size c6)).run Try.prog w' = .ok (.string (strN l.size l.f)) w' ∧ w'.cell? ⟨hb, 2, none⟩ = some (.slice (some ⟨ug, 0, none⟩) hl.length uc) ∧ w'.cell? ⟨ug, k, none⟩ = some (.slice (some ⟨l.blk, 0, none⟩) l.size l.size) ∧ (convert 45 9 (.slice (some ⟨l.blk, 0, none⟩) l.size l.size)).run Try.prog w' = .ok (.string (strN l.size l.f)) w') := fun w' u => ⟨(M2.out.2.up u).conv, HS2.out w' (M2.out.1.trans u)⟩
      refine wp_region_held_drew (S := fun w' : World => (convert 45 9 (.slice (some ⟨g6, 0, none⟩) l.size c6)).run Try.prog w' = .ok (.string (strN l.size l.f)) w' ∧ w'.cell? ⟨hb, 2, none⟩ = some (.slice (some ⟨ug, 0, none⟩) hl.length uc) ∧ w'.cell? ⟨ug, k, none⟩ = some (.slice (some ⟨l.blk, 0, none⟩) l.size l.size) ∧ (convert 45 9 (.slice (some ⟨l.blk, 0, none⟩) l.size l.size)).run Try.prog w' = .ok (.string (strN l.size l.f)) w') (by kernel_rfl) ?_ (fun hHeld => ?_)
      · exact HS3.out _ (Up.refl w6).drew
      have M3 : Hid (Up w1 w6.drew) := M2.out.1.drew
      clear M2 HS2 HS3
      generalize World.drew w6 = wf at M3 hHeld ⊢
      refine wpAnyH_take (i := 0) (v := ?_) (by simp only [List.getElem?_toArray, List.getElem?_cons_zero]; rfl) (by kernel_rfl) (by kernel_rfl) (by kernel_rfl) (by intro _ _ _ h; exact h) (Or.inl ⟨by rfl, ?_⟩) (by assumption) ?_
      rotate_left
      · (intro w hSw; (try dsimp only at hSw); go_simp <;> with_reducible rfl)
      try simp only [Act.put, List.setIfInBounds_toArray, List.set_cons_zero, List.set_cons_succ]
      refine wpAnyH_take (i := 1) (v := ?_) (by simp only [List.getElem?_toArray, List.getElem?_cons_succ, List.getElem?_cons_zero]; rfl) (by kernel_rfl) (by kernel_rfl) (by kernel_rfl) (by intro _ _ _ h; exact h) (Or.inl ⟨by rfl, ?_⟩) (by assumption) ?_
      rotate_left
      · (intro w hSw; (try dsimp only at hSw); go_simp <;> with_reducible rfl)
      try simp only [Act.put, List.setIfInBounds_toArray, List.set_cons_zero, List.set_cons_succ]
      refine wpAnyH_take (i := 2) (v := ?_) (by simp only [List.getElem?_toArray, List.getElem?_cons_succ, List.getElem?_cons_zero]; rfl) (by kernel_rfl) (by kernel_rfl) (by kernel_rfl) (by intro _ _ _ h; exact h) (Or.inl ⟨by rfl, ?_⟩) (by assumption) ?_
      rotate_left
      · (intro w hSw; (try dsimp only at hSw); go_simp <;> with_reducible rfl)
      try simp only [Act.put, List.setIfInBounds_toArray, List.set_cons_zero, List.set_cons_succ]
      refine wpAnyH_take (i := 3) (v := ?_) (by simp only [List.getElem?_toArray, List.getElem?_cons_succ, List.getElem?_cons_zero]; rfl) (by kernel_rfl) (by kernel_rfl) (by kernel_rfl) (by intro _ _ _ h; exact h) (Or.inl ⟨by rfl, ?_⟩) (by assumption) ?_
      rotate_left
      · (intro w hSw; (try dsimp only at hSw); go_simp <;> with_reducible rfl)
      try simp only [Act.put, List.setIfInBounds_toArray, List.set_cons_zero, List.set_cons_succ]
      refine wpAnyH_take (i := 4) (v := ?_) (by simp only [List.getElem?_toArray, List.getElem?_cons_succ, List.getElem?_cons_zero]; rfl) (by kernel_rfl) (by kernel_rfl) (by kernel_rfl) (by intro _ _ _ h; exact h) (Or.inl ⟨by rfl, ?_⟩) (by assumption) ?_
      rotate_left
      · (intro w hSw; (try dsimp only at hSw); go_simp <;> with_reducible rfl)
      try simp only [Act.put, List.setIfInBounds_toArray, List.set_cons_zero, List.set_cons_succ]
      refine wpAnyH_take (i := 5) (v := ?_) (by simp only [List.getElem?_toArray, List.getElem?_cons_succ, List.getElem?_cons_zero]; rfl) (by kernel_rfl) (by kernel_rfl) (by kernel_rfl) (by intro _ _ _ h; exact h) (Or.inl ⟨by rfl, ?_⟩) (by assumption) ?_
      rotate_left
      · (intro w hSw; (try dsimp only at hSw); go_simp <;> with_reducible rfl)
      try simp only [Act.put, List.setIfInBounds_toArray, List.set_cons_zero, List.set_cons_succ]
      refine wpAnyH_take (i := 6) (v := ?_) (by simp only [List.getElem?_toArray, List.getElem?_cons_succ, List.getElem?_cons_zero]; rfl) (by kernel_rfl) (by kernel_rfl) (by kernel_rfl) (by intro _ _ _ h; exact h) (Or.inl ⟨by rfl, ?_⟩) (by assumption) ?_
      rotate_left
      · (intro w hSw; (try dsimp only at hSw); go_simp <;> with_reducible rfl)
      try simp only [Act.put, List.setIfInBounds_toArray, List.set_cons_zero, List.set_cons_succ]
      refine wpAnyH_take (i := 7) (v := ?_) (by simp only [List.getElem?_toArray, List.getElem?_cons_succ, List.getElem?_cons_zero]; rfl) (by kernel_rfl) (by kernel_rfl) (by kernel_rfl) (by intro _ _ _ h; exact h) (Or.inl ⟨by rfl, ?_⟩) (by assumption) ?_
      rotate_left
      · (intro w hSw; (try dsimp only at hSw); go_simp <;> with_reducible rfl)
      try simp only [Act.put, List.setIfInBounds_toArray, List.set_cons_zero, List.set_cons_succ]
      refine wpAnyH_take (i := 8) (v := ?_) (by simp only [List.getElem?_toArray, List.getElem?_cons_succ, List.getElem?_cons_zero]; rfl) (by kernel_rfl) (by kernel_rfl) (by kernel_rfl) (by intro _ _ _ h; exact h) (Or.inl ⟨by rfl, ?_⟩) (by assumption) ?_
      rotate_left
      · (intro w hSw; (try dsimp only at hSw); go_simp <;> with_reducible rfl)
      try simp only [Act.put, List.setIfInBounds_toArray, List.set_cons_zero, List.set_cons_succ]
      refine wpAnyH_take (i := 9) (v := ?_) (by simp only [List.getElem?_toArray, List.getElem?_cons_succ, List.getElem?_cons_zero]; rfl) (by kernel_rfl) (by kernel_rfl) (by kernel_rfl) (by intro _ _ _ h; exact h) (Or.inl ⟨by rfl, ?_⟩) (by assumption) ?_
      rotate_left
      · (intro w hSw; (try dsimp only at hSw); go_simp <;> with_reducible rfl)
      try simp only [Act.put, List.setIfInBounds_toArray, List.set_cons_zero, List.set_cons_succ]
      refine wpAnyH_take (i := 10) (v := ?_) (by simp only [List.getElem?_toArray, List.getElem?_cons_succ, List.getElem?_cons_zero]; rfl) (by kernel_rfl) (by kernel_rfl) (by kernel_rfl) (by intro _ _ _ h; exact h) (Or.inl ⟨by rfl, ?_⟩) (by assumption) ?_
      rotate_left
      · (intro w hSw; (try dsimp only at hSw); go_simp <;> with_reducible rfl)
      try simp only [Act.put, List.setIfInBounds_toArray, List.set_cons_zero, List.set_cons_succ]
      refine wpAnyH_take (i := 11) (v := ?_) (by simp only [List.getElem?_toArray, List.getElem?_cons_succ, List.getElem?_cons_zero]; rfl) (by kernel_rfl) (by kernel_rfl) (by kernel_rfl) (by intro _ _ _ h; exact h) (Or.inl ⟨by rfl, ?_⟩) (by assumption) ?_
      rotate_left
      · (intro w hSw; (try dsimp only at hSw); go_simp <;> with_reducible rfl)
      try simp only [Act.put, List.setIfInBounds_toArray, List.set_cons_zero, List.set_cons_succ]
      refine wpAnyH_take (i := 12) (v := ?_) (by simp only [List.getElem?_toArray, List.getElem?_cons_succ, List.getElem?_cons_zero]; rfl) (by kernel_rfl) (by kernel_rfl) (by kernel_rfl) (by intro _ _ _ h; exact h) (Or.inl ⟨by rfl, ?_⟩) (by assumption) ?_
      rotate_left
      · (intro w hSw; (try dsimp only at hSw); go_simp <;> with_reducible rfl)
      try simp only [Act.put, List.setIfInBounds_toArray, List.set_cons_zero, List.set_cons_succ]
      refine wpAnyH_done (by kernel_rfl) ?_ _
      clear hHeld
      go_wp2_with fail
      refine ⟨⟨k + 1, by omega, by first | rfl | (simp; done), M3⟩, ?_⟩
      simp [intOf]
      try omega
    · have d1 : ¬ (k : Int) < (hl.length : Int) := by omega
      have HE : Hid (Up w wr) := (HBx.out wr M0.out).1
      clear HKt HLd
      go_wp2_with fail
      go_ret
      exact ⟨by first | rfl | (simp; done), HE.out⟩
end Go.Proofs.Yteijdcidemajfaa
/- Arena: four of them, and the law's list of what they hold. -/
namespace Go.Proofs.Yteijdcidemajfaa
open Go.RowKit
set_option linter.unusedVariables false
variable {K K' O : Nat → Prop} {w w' W : World} {pb n : Nat} {P P' : Pl} {q : Int}
/-- what one of the four holds -/
structure One4 where
  lv : Value
  bv : Value
  hl : List Loan
  ls : List Loan
  O : Nat → Prop
/-- the pool and the four; the list of them aside -/
structure Fp (W : World) (K : Nat → Prop) (pb n : Nat) (q : Int) (lg : Nat) (P : Pl) (H : Nat → One4) (w : World) : Prop where
  p : Pb W K pb P w
  cs : Cs n P
  ar : ∀ i, i < 4 → P.ars[i]? = some (some ⟨q, (H i).ls⟩)
  ky : ∀ i, i < 4 → keys (H i).ls = keys (H i).hl
  ht : ∀ i, i < 4 → Ht (H i).O w (H i).lv (H i).bv (H i).hl (H i).hl
  ok : ∀ i, i < 4 → ∀ b, (H i).O b → K b ∧ W.heap.size ≤ b ∧ b ≠ lg
  di : ∀ i j, i < 4 → j < 4 → i ≠ j → ∀ b, (H i).O b → ¬ (H j).O b
  kl : K lg
  wl : W.heap.size ≤ lg
variable {lg : Nat} {H : Nat → One4}
theorem Fp.more (h : Fp W K pb n q lg P H w) (u : Up w w') : Fp W K pb n q lg P H w' :=
  ⟨h.p.more u, h.cs, h.ar, h.ky, fun i hi => (h.ht i hi).same (fun b hb _ => u.block b hb), h.ok, h.di, h.kl, h.wl⟩
/-- new blocks are let into K -/
theorem Fp.moreK (h : Fp W K pb n q lg P H w) (u : Up w w') : Fp W (fun b => K b ∨ (w.heap.size ≤ b ∧ b < w'.heap.size)) pb n q lg P H w' :=
  ⟨h.p.moreK u (fun b hb => hb) (fun b hb => Or.inl (h.p.ko b hb)), h.cs, h.ar, h.ky, fun i hi => (h.ht i hi).same (fun b hb _ => u.block b hb), fun i hi b hb => ⟨Or.inl (h.ok i hi b hb).1, (h.ok i hi b hb).2⟩, h.di, Or.inl h.kl, h.wl⟩
theorem Fp.kb (h : Fp W K pb n q lg P H w) : ∀ b, K b → b < w.heap.size := fun b hb => by
  obtain ⟨R, A, q⟩ := h.p.at'
  exact q.kb b hb
/-- the law's list may be written -/
theorem Fp.frL (h : Fp W K pb n q lg P H w) (f : Fr lg w w') : Fp W K pb n q lg P H w' :=
  ⟨h.p.frB f h.kl h.wl, h.cs, h.ar, h.ky, fun i hi => (h.ht i hi).same (fun b hb ho => f.block b hb (h.ok i hi b ho).2.2), h.ok, h.di, h.kl, h.wl⟩
def upd4 (H : Nat → One4) (i : Nat) (x : One4) : Nat → One4 := fun j => if j = i then x else H j
theorem upd4_same (H : Nat → One4) (i : Nat) (x : One4) : upd4 H i x i = x := if_pos rfl
theorem upd4_ne (H : Nat → One4) {i j : Nat} (x : One4) (h : j ≠ i) : upd4 H i x j = H j := if_neg h
/-- behind an act of the i-th -/
theorem Fp.acted {i : Nat} {lv' bv' : Value} {hl' L' : List Loan} {K' O' : Nat → Prop} (h : Fp W K pb n q lg P H w) (hi : i < 4) (d1 : Pb W K' pb P' w') (d2 : Ht O' w' lv' bv' hl' hl') (d3 : ∀ b, O' b → K' b ∧ W.heap.size ≤ b) (d4 : ∀ b, O' b → (H i).O b ∨ w.heap.size ≤ b) (d5 : ∀ b, K b → K' b) (d6 : FK (fun b => K b ∧ ¬ (H i).O b) w w') (l1 : P'.ars = P.ars.set i (some ⟨q, L'⟩)) (l2 : keys L' = keys hl') (c1 : Cs n P') :
    Fp W K' pb n q lg P' (upd4 H i ⟨lv', bv', hl', L', O'⟩) w' ∧ w'.heap[lg]? = w.heap[lg]? := by
  have hlg := h.kb lg h.kl
  have hni : ¬ (H i).O lg := fun e => (h.ok i hi lg e).2.2 rfl
  have hol : ∀ j, j < 4 → ∀ b, (H j).O b → b < w.heap.size := fun j hj b hb => h.kb b (h.ok j hj b hb).1
  have hil : i < P.ars.length := (List.getElem?_eq_some_iff.1 (h.ar i hi)).1
  refine ⟨⟨d1, c1, fun j hj => ?_, fun j hj => ?_, fun j hj => ?_, fun j hj b hb => ?_, fun j k hj hk hjk b hb hc => ?_, d5 lg h.kl, h.wl⟩, d6.block lg hlg ⟨h.kl, hni⟩⟩
  · rw [l1, List.getElem?_set]
    by_cases e : i = j
    · subst e
      rw [if_pos rfl, if_pos hil, upd4_same]
    · rw [if_neg e, upd4_ne _ _ (fun e' => e e'.symm)]
      exact h.ar j hj
  · by_cases e : j = i
    · subst e
      rw [upd4_same]
      exact l2
    · rw [upd4_ne _ _ e]
      exact h.ky j hj
  · by_cases e : j = i
    · subst e
      rw [upd4_same]
      exact d2
    · rw [upd4_ne _ _ e]
      exact (h.ht j hj).same (fun b hb ho => d6.block b hb ⟨(h.ok j hj b ho).1, fun e2 => h.di j i hj hi e b ho e2⟩)
  · by_cases e : j = i
    · subst e
      rw [upd4_same] at hb
      have h3 := d3 b hb
      refine ⟨h3.1, h3.2, fun e2 => ?_⟩
      rcases d4 b hb with e3 | e3
      · exact (h.ok j hj b e3).2.2 e2
      · omega
    · rw [upd4_ne _ _ e] at hb
      have := h.ok j hj b hb
      exact ⟨d5 b this.1, this.2⟩
  · by_cases e : j = i
    · subst e
      rw [upd4_same] at hb
      rw [upd4_ne _ _ (fun e' => hjk e'.symm)] at hc
      rcases d4 b hb with e3 | e3
      · exact h.di j k hj hk hjk b e3 hc
      · have := hol k hk b hc
        omega
    · rw [upd4_ne _ _ e] at hb
      by_cases e2 : k = i
      · subst e2
        rw [upd4_same] at hc
        rcases d4 b hc with e3 | e3
        · exact h.di j k hj hk hjk b hb e3
        · have := hol j hj b hb
          omega
      · rw [upd4_ne _ _ e2] at hc
        exact h.di j k hj hk hjk b hb hc
/-- the list of the four -/
def Row4 (w : World) (lg cap : Nat) (H : Nat → One4) : Prop := ∃ cs, w.heap[lg]? = some (.cells cs 56 (0, 0)) ∧ cs.size = cap * 3 ∧ 4 ≤ cap ∧ ∀ i, i < 4 → cs[i * 3]? = some (.int .i64 (i : Int)) ∧ cs[i * 3 + 1]? = some (H i).lv ∧ cs[i * 3 + 2]? = some (H i).bv
theorem Row4.of {cap : Nat} (h : Row4 w lg cap H) (e : w'.heap[lg]? = w.heap[lg]?) : Row4 w' lg cap H := by
  obtain ⟨cs, h1, h2⟩ := h
  exact ⟨cs, e.trans h1, h2⟩
theorem Row4.range {cap i : Nat} (h : Row4 w lg cap H) (hi : i < 4) : w.rangeAt lg (i * 3) [.int .i64 (i : Int), (H i).lv, (H i).bv] := by
  obtain ⟨cs, h1, h2, h3, h4⟩ := h
  obtain ⟨q1, q2, q3⟩ := h4 i hi
  exact range3 (heap_cell h1 q1) (heap_cell h1 q2) (heap_cell h1 q3)
theorem Row4.there {cap i : Nat} (h : Row4 w lg cap H) (hi : i < 4) : w.there lg (i * 3) 3 := by
  obtain ⟨cs, h1, h2, h3, h4⟩ := h
  intro k hk
  refine ⟨by rw [heap_cell h1 (Array.getElem?_eq_getElem (by omega))]; rfl, heap_fz h1⟩
theorem Row4.set {cap i : Nat} {x : One4} (h : Row4 w lg cap H) (hi : i < 4) : Row4 (w.setCells lg (i * 3) [.int .i64 (i : Int), x.lv, x.bv]) lg cap (upd4 H i x) := by
  obtain ⟨cs, h1, h2, h3, h4⟩ := h
  have hl : ([.int .i64 (i : Int), x.lv, x.bv] : List Value).length = 3 := rfl
  have ha : ∀ k, (putL cs (i * 3) [.int .i64 (i : Int), x.lv, x.bv])[k]? = if i * 3 ≤ k ∧ k < i * 3 + 3 then ([.int .i64 (i : Int), x.lv, x.bv] : List Value)[k - i * 3]? else cs[k]? := fun k => by
    rw [putL_at _ _ _ _ (by rw [hl]; omega), hl]
  refine ⟨_, heap_setCells_same lg _ _ _ _ w h1, by rw [putL_size, h2], h3, fun j hj => ?_⟩
  rw [ha, ha, ha]
  by_cases e : j = i
  · subst e
    rw [upd4_same, if_pos (by omega), if_pos (by omega), if_pos (by omega), Nat.sub_self, show j * 3 + 1 - j * 3 = 1 by omega, show j * 3 + 2 - j * 3 = 2 by omega]
    exact ⟨rfl, rfl, rfl⟩
  · rw [upd4_ne _ _ e, if_neg (by omega), if_neg (by omega), if_neg (by omega)]
    exact h4 j hj
/-- the beginning -/
theorem Fp.house {V : Value} (h : Hs W K pb n q V 4 4 w) : ∃ lg cap P, V = .slice (some ⟨lg, 0, none⟩) 4 cap ∧ cap ≤ 9223372036854775807 ∧ Fp W K pb n q lg P (fun _ => ⟨.slice none 0 0, .slice none 0 0, [], [], fun _ => False⟩) w ∧ Row4 w lg cap (fun _ => ⟨.slice none 0 0, .slice none 0 0, [], [], fun _ => False⟩) := by
  obtain ⟨P, h1, h2, h3⟩ := h.at'
  rcases own_cases h.own with ⟨_, hn, _⟩ | ⟨lg, cap, hv, hc, hm, hg, hgo⟩
  · cases hn
  · have ow := h.own
    rw [hv] at ow
    obtain ⟨cur, q1, q2, q3, q4, q5, q6, q7⟩ := own_open ow
    refine ⟨lg, cap, P, hv, by unfold maxLen at hm; omega, ⟨h1, ?_, fun i hi => ?_, fun i hi => rfl, fun i hi => Ht.nil _ w, fun i hi b hb => hb.elim, fun i j hi hj hij b hb => hb.elim, h.kv lg hgo, q2⟩, cur, q1, q5, hc, fun i hi => ?_⟩
    · exact ⟨List.range' 0 n, List.range' n n, h3.trans (by simp [mkCls])⟩
    · rw [h2]
      have : i = 0 ∨ i = 1 ∨ i = 2 ∨ i = 3 := by omega
      rcases this with rfl | rfl | rfl | rfl <;> rfl
    · have hat : ∀ k, k < 12 → cur[k]? = (heldCells 4)[k]? := fun k hk => own_at q6 k (by omega)
      have : i = 0 ∨ i = 1 ∨ i = 2 ∨ i = 3 := by omega
      rcases this with rfl | rfl | rfl | rfl <;> exact ⟨by rw [hat _ (by decide)]; rfl, by rw [hat _ (by decide)]; rfl, by rw [hat _ (by decide)]; rfl⟩
/-- all of those before one are open -/
theorem Fp.opens (h : Fp W K pb n q lg P H w) {i : Nat} (hi : i < 4) : ∀ j, j < i → ∃ b, P.ars[j]? = some (some b) := fun j hj => ⟨_, h.ar j (by omega)⟩
theorem Fp.holds (h : Fp W K pb n q lg P H w) {i : Nat} (hi : i < 4) : Calls Try.prog 26 #[.pointer (some ⟨pb, 0, none⟩), .agg #[.int .i64 (i : Int), (H i).lv, (H i).bv]] w fun e w' => e = .returned (.bool true) ∧ Up w w' := holds_any h.p (h.ht i hi) (h.ar i hi) (h.ky i hi) h.cs
end Go.Proofs.Yteijdcidemajfaa
/- Arena: the law's script as it comes in, and what acts promises. -/
namespace Go.Proofs.Yteijdcidemajfaa
open Go.RowKit
set_option linter.unusedVariables false
/-- acts of six numbers, as they come in -/
structure Act6s (W : World) (aa : Option Addr) (ab ao len cap : Nat) (f : Nat → Nat → Int) : Prop where
  lc : len ≤ cap
  cm : cap ≤ maxLen
  ad : 0 < len → aa = some ⟨ab, ao, none⟩
  i64 : ∀ k j, I64 (f k j)
  cell : ∀ k, k < len → ∀ j, j < 6 → W.cell? ⟨ab, ao + k * 6 + j, none⟩ = some (.int .i64 (f k j))
theorem Act6s.range {W : World} {aa : Option Addr} {ab ao len cap : Nat} {f : Nat → Nat → Int} (h : Act6s W aa ab ao len cap f) {w : World} (u : Up W w) {k : Nat} (hk : k < len) : w.rangeAt ab (ao + k * 6) [.int .i64 (f k 0), .int .i64 (f k 1), .int .i64 (f k 2), .int .i64 (f k 3), .int .i64 (f k 4), .int .i64 (f k 5)] := by
  intro j v hj
  have hj6 : j < 6 := by simpa using (List.getElem?_eq_some_iff.1 hj).1
  have := cell_up u (h.cell k hk j hj6)
  rw [this]
  have : j = 0 ∨ j = 1 ∨ j = 2 ∨ j = 3 ∨ j = 4 ∨ j = 5 := by omega
  rcases this with rfl | rfl | rfl | rfl | rfl | rfl <;> simpa using hj
theorem Act6s.up {W : World} {aa : Option Addr} {ab ao len cap : Nat} {f : Nat → Nat → Int} (h : Act6s W aa ab ao len cap f) {w : World} (u : Up W w) : Act6s w aa ab ao len cap f := ⟨h.lc, h.cm, h.ad, h.i64, fun k hk j hj => cell_up u (h.cell k hk j hj)⟩
/-- what acts promises, whatever the act is -/
def ActsAny : Prop := ∀ (K O : Nat → Prop) (w W : World) (pb n i : Nat) (P : Pl) (lv bv : Value) (hl L : List Loan) (q : Int) (kd who sz pk at' by' : Int) (i1 : I64 kd) (i3 : I64 sz) (i4 : I64 pk) (i5 : I64 at') (i6 : I64 by') (hp : Pb W K pb P w) (hh : Ht O w lv bv hl hl) (ho : ∀ b, O b → K b ∧ W.heap.size ≤ b) (ha : P.ars[i]? = some (some ⟨q, L⟩)) (hk : keys L = keys hl) (hc : Cs n P) (q0 : 0 ≤ q) (q1 : q ≤ 1000) (hop : ∀ j, j < i → ∃ b, P.ars[j]? = some (some b)),
    Calls Try.prog 23 #[.pointer (some ⟨pb, 0, none⟩), .agg #[.int .i64 (i : Int), lv, bv], .agg #[.int .i64 kd, .int .i64 who, .int .i64 sz, .int .i64 pk, .int .i64 at', .int .i64 by'], .int .i64 q] w fun e w' => ∃ lv' bv' hl' P' K' O' L', e = .returned (.tuple #[.agg #[.int .i64 (i : Int), lv', bv'], .bool true]) ∧ Pb W K' pb P' w' ∧ Ht O' w' lv' bv' hl' hl' ∧ (∀ b, O' b → K' b ∧ W.heap.size ≤ b) ∧ (∀ b, O' b → O b ∨ w.heap.size ≤ b) ∧ (∀ b, K b → K' b) ∧ FK (fun b => K b ∧ ¬ O b) w w' ∧ P'.ars = P.ars.set i (some ⟨q, L'⟩) ∧ keys L' = keys hl' ∧ Cs n P' ∧ nbs hl' = actF kd sz pk at' by' q P.freeN (nbs hl)
/-- the four, the pool and the list of the four -/
def F4 (W : World) (pb n : Nat) (q : Int) (lg cap : Nat) (w : World) : Prop := ∃ K P H, Fp W K pb n q lg P H w ∧ Row4 w lg cap H
theorem F4.up {W w : World} {pb n : Nat} {q : Int} {lg cap : Nat} (h : F4 W pb n q lg cap w) : Up W w := by
  obtain ⟨K, P, H, h1, h2⟩ := h
  exact h1.p.up
theorem F4.more {W w w' : World} {pb n : Nat} {q : Int} {lg cap : Nat} (h : F4 W pb n q lg cap w) (u : Up w w') : F4 W pb n q lg cap w' := by
  obtain ⟨K, P, H, h1, h2⟩ := h
  exact ⟨K, P, H, h1.more u, h2.of (u.block lg (h1.kb lg h1.kl))⟩
theorem F4.row {W w : World} {pb n : Nat} {q : Int} {lg cap : Nat} (h : F4 W pb n q lg cap w) {i : Nat} (hi : i < 4) : ∃ lv bv, w.rangeAt lg (i * 3) [.int .i64 (i : Int), lv, bv] ∧ ∀ w2, Up w w2 → Calls Try.prog 26 #[.pointer (some ⟨pb, 0, none⟩), .agg #[.int .i64 (i : Int), lv, bv]] w2 fun e w' => e = .returned (.bool true) ∧ Up w2 w' := by
  obtain ⟨K, P, H, h1, h2⟩ := h
  exact ⟨_, _, h2.range hi, fun w2 u => (h1.more u).holds hi⟩
/-- a new block may be written -/
theorem Fp.frG {K : Nat → Prop} {W w w' : World} {pb n lg g : Nat} {q : Int} {P : Pl} {H : Nat → One4} (h : Fp W K pb n q lg P H w) (f : Fr g w w') (hk : K g) (hg : W.heap.size ≤ g) (hl : lg ≠ g) (ho : ∀ i, i < 4 → ¬ (H i).O g) : Fp W K pb n q lg P H w' :=
  ⟨h.p.frB f hk hg, h.cs, h.ar, h.ky, fun i hi => (h.ht i hi).same (fun b hb hb2 => f.block b hb (fun e => ho i hi (e ▸ hb2))), h.ok, h.di, h.kl, h.wl⟩
/-- one act -/
theorem F4.acted {W w : World} {pb n : Nat} {q : Int} {lg cap : Nat} (HA : ActsAny) (h : F4 W pb n q lg cap w) (q0 : 0 ≤ q) (q1 : q ≤ 1000) {i : Nat} (hi : i < 4) {kd who sz pk at' by' : Int} (i1 : I64 kd) (i3 : I64 sz) (i4 : I64 pk) (i5 : I64 at') (i6 : I64 by') : ∃ lv bv, w.rangeAt lg (i * 3) [.int .i64 (i : Int), lv, bv] ∧ ∀ w2, Up w w2 → Calls Try.prog 23 #[.pointer (some ⟨pb, 0, none⟩), .agg #[.int .i64 (i : Int), lv, bv], .agg #[.int .i64 kd, .int .i64 who, .int .i64 sz, .int .i64 pk, .int .i64 at', .int .i64 by'], .int .i64 q] w2 fun e w' => ∃ a1 n1 c1 a2 n2 c2, e = .returned (.tuple #[.agg #[.int .i64 (i : Int), .slice a1 n1 c1, .slice a2 n2 c2], .bool true]) ∧ w2.heap.size ≤ w'.heap.size ∧ (∀ b, w.heap.size ≤ b → b < w2.heap.size → w'.heap[b]? = w2.heap[b]?) ∧ ∀ g w3, w.heap.size ≤ g → (g < w2.heap.size ∨ w'.heap.size ≤ g) → Fr g w' w3 → Up W w3 ∧ w3.rangeAt lg (i * 3) [.int .i64 (i : Int), lv, bv] ∧ w3.there lg (i * 3) 3 ∧ F4 W pb n q lg cap (w3.setCells lg (i * 3) [.int .i64 (i : Int), .slice a1 n1 c1, .slice a2 n2 c2]) := by
  obtain ⟨K, P, H, h1, h2⟩ := h
  refine ⟨_, _, h2.range hi, fun w2 u2 => ?_⟩
  have hlg := h1.kb lg h1.kl
  have hO : ∀ j, j < 4 → ∀ b, (H j).O b → b < w.heap.size := fun j hj b hb => h1.kb b (h1.ok j hj b hb).1
  have hWs := h1.p.up.size
  have h3 := h1.moreK u2
  have hbl := u2.block lg hlg
  refine (HA _ (H i).O w2 W pb n i P (H i).lv (H i).bv (H i).hl (H i).ls q kd who sz pk at' by' i1 i3 i4 i5 i6 h3.p (h3.ht i hi) (fun b hb => ⟨(h3.ok i hi b hb).1, (h3.ok i hi b hb).2.1⟩) (h3.ar i hi) (h3.ky i hi) h3.cs q0 q1 (h3.opens hi)).mono ?_
  rintro e w' ⟨lv', bv', hl', P', K', O', L', rfl, d1, d2, d3, d4, d5, d6, l1, l2, c1, n1⟩
  obtain ⟨a1, a2⟩ := h3.acted hi d1 d2 d3 d4 d5 d6 l1 l2 c1
  obtain ⟨va, vn, vc, rfl⟩ := own_slice3 d2.lo
  obtain ⟨ua, un, uc, rfl⟩ := own_slice3 d2.bo
  refine ⟨va, vn, vc, ua, un, uc, rfl, d6.size, fun b hb hb2 => d6.block b hb2 ⟨Or.inr ⟨hb, hb2⟩, fun e => ?_⟩, fun g w3 hg hg2 f => ?_⟩
  · have := hO i hi b e
    omega
  have hlw : lg < w'.heap.size := a1.kb lg a1.kl
  have hlg3 : w3.heap[lg]? = w.heap[lg]? := (f.block lg hlw (by omega)).trans (a2.trans hbl)
  have b2 : Row4 w3 lg cap H := h2.of hlg3
  have b1 : ∃ K H', Fp W K pb n q lg P' H' w3 ∧ H' = upd4 H i ⟨.slice va vn vc, .slice ua un uc, hl', L', O'⟩ := by
    rcases hg2 with hg2 | hg2
    · refine ⟨K', _, a1.frG f (d5 g (Or.inr ⟨hg, hg2⟩)) (by omega) (by omega) (fun j hj => ?_), rfl⟩
      by_cases e : j = i
      · subst e
        rw [upd4_same]
        intro e2
        rcases d4 g e2 with e3 | e3
        · have := hO j hj g e3
          omega
        · omega
      · rw [upd4_ne _ _ e]
        intro e2
        have := hO j hj g e2
        omega
    · refine ⟨K', _, a1.more ⟨f.os, f.output, f.size, fun b hb => f.block b hb (by omega)⟩, rfl⟩
  obtain ⟨K2, H2, b1, rfl⟩ := b1
  exact ⟨b1.p.up, b2.range hi, b2.there hi, K2, P', _, b1.frL (fr_setCells lg _ (i * 3) _), b2.set (x := ⟨.slice va vn vc, .slice ua un uc, hl', L', O'⟩) hi⟩
end Go.Proofs.Yteijdcidemajfaa
