/- What an opcode is, over the translation: of the first table. -/
import Derived.Test.YtmboogkpbcjfoaaDoorTabKT
namespace Go.Proofs.YtmboogkpbcjfoaaDoor
open Go.RowKit
set_option linter.unusedVariables false
set_option maxRecDepth 1000000 in
set_option maxHeartbeats 4000000 in
theorem lookUp_F (code : Nat) (w : World) (hc : code < 256) (L : Laid w) :
    Calls Tryd.prog 5 #[.int .i64 code, .bool false] w fun e w' => e = .returned (lookV (lookL code false)) ∧ Below w.heap.size w w' := by
  obtain ⟨x, hxx⟩ : ∃ x, x = code / 64 := ⟨_, rfl⟩
  obtain ⟨y, hyy⟩ : ∃ y, y = code / 8 % 8 := ⟨_, rfl⟩
  obtain ⟨z, hzz⟩ : ∃ z, z = code % 8 := ⟨_, rfl⟩
  have hx : (code : Int) / 64 = (x : Int) := by omega
  have hy : bits .and .i64 ((code : Int) / 8) 7 = (y : Int) := by rw [i64_and7]; omega
  have hz : bits .and .i64 (code : Int) 7 = (z : Int) := by rw [i64_and7]; omega
  have hx4 : x < 4 := by omega
  have hy8 : y < 8 := by omega
  have hz8 : z < 8 := by omega
  have HL : Hid (lookL code false = ((rulesOf x false).find? (fits y z)).map fun r => opcOf r y z) := by show _ = _; subst hxx hyy hzz; rfl
  clear hxx hyy hzz
  go_enter Tryd.func5, Tryd.ntmps5
  go_wp2_with fail
  refine (table_any x false _ hx4).mono ?_
  rintro e w1 ⟨v, rfl, ⟨b, rfl, hbk⟩, hb1⟩
  obtain ⟨rs, hrs⟩ : ∃ rs, rs = rulesOf x false := ⟨_, rfl⟩
  have HF : Hid (∀ r ∈ rs, Fine r) := by rw [hrs]; exact rules_fine x false hx4
  have HL2 : Hid (lookL code false = (rs.find? (fits y z)).map fun r => opcOf r y z) := by rw [hrs]; exact HL.out
  have hrl : rs.length ≤ 100 := by rw [hrs]; exact rules_len x false hx4
  rw [← hrs] at hbk ⊢
  clear hrs HL hx hy hz
  have hz1 : w.heap.size + 1 ≤ w1.heap.size := by have := hb1.size; simp at this; omega
  have hbw : Below w.heap.size w w1 := ((Below.refl _ w).alloc (Nat.le_refl _) _).trans (hb1.mono (by simp))
  have hres : w1.heap[w.heap.size]? = some (.cells #[.string ⟨#[]⟩, .int .i64 0, .int .i64 0, .int .i64 0, .int .i64 0, .int .i64 0] 31 (0, 0)) := by
    rw [hb1.block _ (by simp)]; exact heap_alloc_new w _
  have hbl : b < w1.heap.size := (Array.getElem?_eq_some_iff.1 hbk).1
  have hbne : b ≠ w.heap.size := by intro e; rw [e, hres] at hbk; injection hbk with h; injection h with _ h; exact absurd h (by decide)
  have HB : Hid (w1.heap[b]? = some (.cells (ruleCells rs).toArray 40 (0, 0))) := hbk
  have HR : Hid (w1.heap[w.heap.size]? = some (.cells #[.string ⟨#[]⟩, .int .i64 0, .int .i64 0, .int .i64 0, .int .i64 0, .int .i64 0] 31 (0, 0))) := hres
  clear hbk hres hb1
  go_wp2_with fail
  go_loopw [24] (fun i wr => ∃ k : Nat, k ≤ rs.length ∧ i = .int .i64 k ∧ Below w1.heap.size w1 wr ∧ Hid (∀ j (h : j < rs.length), j < k → fits y z rs[j] = false)) (fun i _ => rs.length - (intOf i).toNat)
  case atStart => exact ⟨0, by omega, rfl, Below.refl _ _, fun j h h' => absurd h' (by omega)⟩
  case round =>
    obtain ⟨k, hk, rfl, hbr, hno⟩ := hrel
    have hsz := hbr.size
    by_cases hlt : k < rs.length
    · obtain ⟨r, hr⟩ : ∃ r, r = rs[k] := ⟨_, rfl⟩
      have hfine : Fine r := by rw [hr]; exact HF.out _ (List.getElem_mem _)
      have hcell : ∀ j (v : Value), (ruleV r)[j]? = some v → wr.cell? ⟨b, k * 7 + j, none⟩ = some v := by
        intro j v hv
        rw [hbr.cell (p := ⟨b, k * 7 + j, none⟩) hbl, cell_of_row _ _ _ _ _ _ HB.out]
        exact ruleCells_at rs k hlt j v (hr ▸ hv)
      have c0 := hcell 0 _ rfl
      have c1 := hcell 1 _ rfl
      have c2 := hcell 2 _ rfl
      have c3 := hcell 3 _ rfl
      have c4 := hcell 4 _ rfl
      have c5 := hcell 5 _ rfl
      have c6 := hcell 6 _ rfl
      simp only [Nat.add_zero] at c0
      clear hcell
      have HRr : Hid (r = rs[k]) := hr
      clear hr
      have hbl2 : b < wr.heap.size := by omega
      have hDq := bit_is r.ys y hfine.ys
      cases hA : (r.z == (z : Int)) <;> cases hB : (r.z == -1) <;> cases hD : (r.ys / 2 ^ y % 2 == 1)
      · have HA : Hid ((r.z == (z : Int)) = false) := hA
        have HB2 : Hid ((r.z == -1) = false) := hB
        have HD : Hid ((r.ys / 2 ^ y % 2 == 1) = false) := hD
        rw [hD] at hDq
        clear hD
        have hfit : fits y z r = false := by unfold fits; rw [HA.out, HB2.out, HD.out]; rfl
        have hno2 : Hid (∀ j (h : j < rs.length), j < k + 1 → fits y z rs[j] = false) := by
          intro j h h'
          by_cases e : j < k
          · exact hno.out j h e
          · obtain rfl : j = k := by omega
            rw [← HRr.out]; exact hfit
        clear hfit
        go_wp2
        go_roundw
        case rel => exact ⟨k + 1, by omega, by go_num, hbr.alloc (by omega) _, hno2⟩
        case measure => simp [intOf]; omega
      · have HA : Hid ((r.z == (z : Int)) = false) := hA
        have HB2 : Hid ((r.z == -1) = false) := hB
        have HD : Hid ((r.ys / 2 ^ y % 2 == 1) = true) := hD
        rw [hD] at hDq
        clear hD
        have hfit : fits y z r = false := by unfold fits; rw [HA.out, HB2.out, HD.out]; rfl
        have hno2 : Hid (∀ j (h : j < rs.length), j < k + 1 → fits y z rs[j] = false) := by
          intro j h h'
          by_cases e : j < k
          · exact hno.out j h e
          · obtain rfl : j = k := by omega
            rw [← HRr.out]; exact hfit
        clear hfit
        go_wp2
        go_roundw
        case rel => exact ⟨k + 1, by omega, by go_num, hbr.alloc (by omega) _, hno2⟩
        case measure => simp [intOf]; omega
      · have HA : Hid ((r.z == (z : Int)) = false) := hA
        have HB2 : Hid ((r.z == -1) = true) := hB
        have HD : Hid ((r.ys / 2 ^ y % 2 == 1) = false) := hD
        rw [hD] at hDq
        clear hD
        have hfit : fits y z r = false := by unfold fits; rw [HA.out, HB2.out, HD.out]; rfl
        have hno2 : Hid (∀ j (h : j < rs.length), j < k + 1 → fits y z rs[j] = false) := by
          intro j h h'
          by_cases e : j < k
          · exact hno.out j h e
          · obtain rfl : j = k := by omega
            rw [← HRr.out]; exact hfit
        clear hfit
        go_wp2
        go_roundw
        case rel => exact ⟨k + 1, by omega, by go_num, hbr.alloc (by omega) _, hno2⟩
        case measure => simp [intOf]; omega
      · have HA : Hid ((r.z == (z : Int)) = false) := hA
        have HB2 : Hid ((r.z == -1) = true) := hB
        have HD : Hid ((r.ys / 2 ^ y % 2 == 1) = true) := hD
        rw [hD] at hDq
        clear hD
        have hfit : fits y z r = true := by unfold fits; rw [HA.out, HB2.out, HD.out]; rfl
        have HRES : Hid (lookL code false = some (opcOf r y z)) := by
          show _ = _
          rw [HL2.out, find_at rs (fits y z) k hlt hno.out (HRr.out ▸ hfit), ← HRr.out]; rfl
        have L2 : Laid wr := L.kept (Kept.ofBelow (hbw.trans (hbr.mono (by omega))))
        go_wp2_with fail
        refine (opcode_any r y z _ hfine hy8 hz8 (L2.up _)).mono ?_
        rintro e w2 ⟨rfl, hb2⟩
        have HR2 : Hid (w2.heap[w.heap.size]? = some (.cells #[.string ⟨#[]⟩, .int .i64 0, .int .i64 0, .int .i64 0, .int .i64 0, .int .i64 0] 31 (0, 0))) := by
          show _ = _
          rw [hb2.block _ (by simp; omega), Below.heap_alloc _ _ _ (by omega), hbr.block _ (by omega)]
          exact HR.out
        have hbw2 : Below w.heap.size w w2 := (hbw.trans (hbr.mono (by omega))).trans (((Below.refl _ wr).alloc (Nat.le_refl _) _).trans (hb2.mono (by simp)) |>.mono (by omega))
        obtain ⟨o, ho⟩ : ∃ o, o = opcOf r y z := ⟨_, rfl⟩
        rw [← ho]
        have HO : Hid (opcOf r y z = o) := ho.symm
        clear ho
        go_wp2_with (refine wpList_store_rowTo rfl 31 _ _ rfl rfl w.heap.size #[.string ⟨o.text.toArray⟩, .int .i64 o.arg, .int .i64 o.y, .int .i64 o.bytes, .int .i64 o.cycles, .int .i64 o.taken] rfl rfl 31 _ HR2.out (by kernel_rfl) rfl (by simp [Value.oneCell']) ?_)
        refine bodyPost_ret (v := .tuple #[opcV o, .bool true]) (results_row_tmp Tryd.results5 _ _ w.heap.size 31 _ (0, 0) _ rfl (setRow_heap _ _ _ _ _ _ HR2.out) Tryd.underlying31 rfl (by kernel_rfl)) rfl ⟨?_, below_setRow hbw2 (Nat.le_refl _) _⟩
        rw [HRES.out, HO.out]; rfl
      · have HA : Hid ((r.z == (z : Int)) = true) := hA
        have HB2 : Hid ((r.z == -1) = false) := hB
        have HD : Hid ((r.ys / 2 ^ y % 2 == 1) = false) := hD
        rw [hD] at hDq
        clear hD
        have hfit : fits y z r = false := by unfold fits; rw [HA.out, HB2.out, HD.out]; rfl
        have hno2 : Hid (∀ j (h : j < rs.length), j < k + 1 → fits y z rs[j] = false) := by
          intro j h h'
          by_cases e : j < k
          · exact hno.out j h e
          · obtain rfl : j = k := by omega
            rw [← HRr.out]; exact hfit
        clear hfit
        go_wp2
        go_roundw
        case rel => exact ⟨k + 1, by omega, by go_num, hbr.alloc (by omega) _, hno2⟩
        case measure => simp [intOf]; omega
      · have HA : Hid ((r.z == (z : Int)) = true) := hA
        have HB2 : Hid ((r.z == -1) = false) := hB
        have HD : Hid ((r.ys / 2 ^ y % 2 == 1) = true) := hD
        rw [hD] at hDq
        clear hD
        have hfit : fits y z r = true := by unfold fits; rw [HA.out, HB2.out, HD.out]; rfl
        have HRES : Hid (lookL code false = some (opcOf r y z)) := by
          show _ = _
          rw [HL2.out, find_at rs (fits y z) k hlt hno.out (HRr.out ▸ hfit), ← HRr.out]; rfl
        have L2 : Laid wr := L.kept (Kept.ofBelow (hbw.trans (hbr.mono (by omega))))
        go_wp2_with fail
        refine (opcode_any r y z _ hfine hy8 hz8 (L2.up _)).mono ?_
        rintro e w2 ⟨rfl, hb2⟩
        have HR2 : Hid (w2.heap[w.heap.size]? = some (.cells #[.string ⟨#[]⟩, .int .i64 0, .int .i64 0, .int .i64 0, .int .i64 0, .int .i64 0] 31 (0, 0))) := by
          show _ = _
          rw [hb2.block _ (by simp; omega), Below.heap_alloc _ _ _ (by omega), hbr.block _ (by omega)]
          exact HR.out
        have hbw2 : Below w.heap.size w w2 := (hbw.trans (hbr.mono (by omega))).trans (((Below.refl _ wr).alloc (Nat.le_refl _) _).trans (hb2.mono (by simp)) |>.mono (by omega))
        obtain ⟨o, ho⟩ : ∃ o, o = opcOf r y z := ⟨_, rfl⟩
        rw [← ho]
        have HO : Hid (opcOf r y z = o) := ho.symm
        clear ho
        go_wp2_with (refine wpList_store_rowTo rfl 31 _ _ rfl rfl w.heap.size #[.string ⟨o.text.toArray⟩, .int .i64 o.arg, .int .i64 o.y, .int .i64 o.bytes, .int .i64 o.cycles, .int .i64 o.taken] rfl rfl 31 _ HR2.out (by kernel_rfl) rfl (by simp [Value.oneCell']) ?_)
        refine bodyPost_ret (v := .tuple #[opcV o, .bool true]) (results_row_tmp Tryd.results5 _ _ w.heap.size 31 _ (0, 0) _ rfl (setRow_heap _ _ _ _ _ _ HR2.out) Tryd.underlying31 rfl (by kernel_rfl)) rfl ⟨?_, below_setRow hbw2 (Nat.le_refl _) _⟩
        rw [HRES.out, HO.out]; rfl
      · have HA : Hid ((r.z == (z : Int)) = true) := hA
        have HB2 : Hid ((r.z == -1) = true) := hB
        have HD : Hid ((r.ys / 2 ^ y % 2 == 1) = false) := hD
        rw [hD] at hDq
        clear hD
        have hfit : fits y z r = false := by unfold fits; rw [HA.out, HB2.out, HD.out]; rfl
        have hno2 : Hid (∀ j (h : j < rs.length), j < k + 1 → fits y z rs[j] = false) := by
          intro j h h'
          by_cases e : j < k
          · exact hno.out j h e
          · obtain rfl : j = k := by omega
            rw [← HRr.out]; exact hfit
        clear hfit
        go_wp2
        go_roundw
        case rel => exact ⟨k + 1, by omega, by go_num, hbr.alloc (by omega) _, hno2⟩
        case measure => simp [intOf]; omega
      · have HA : Hid ((r.z == (z : Int)) = true) := hA
        have HB2 : Hid ((r.z == -1) = true) := hB
        have HD : Hid ((r.ys / 2 ^ y % 2 == 1) = true) := hD
        rw [hD] at hDq
        clear hD
        have hfit : fits y z r = true := by unfold fits; rw [HA.out, HB2.out, HD.out]; rfl
        have HRES : Hid (lookL code false = some (opcOf r y z)) := by
          show _ = _
          rw [HL2.out, find_at rs (fits y z) k hlt hno.out (HRr.out ▸ hfit), ← HRr.out]; rfl
        have L2 : Laid wr := L.kept (Kept.ofBelow (hbw.trans (hbr.mono (by omega))))
        go_wp2_with fail
        refine (opcode_any r y z _ hfine hy8 hz8 (L2.up _)).mono ?_
        rintro e w2 ⟨rfl, hb2⟩
        have HR2 : Hid (w2.heap[w.heap.size]? = some (.cells #[.string ⟨#[]⟩, .int .i64 0, .int .i64 0, .int .i64 0, .int .i64 0, .int .i64 0] 31 (0, 0))) := by
          show _ = _
          rw [hb2.block _ (by simp; omega), Below.heap_alloc _ _ _ (by omega), hbr.block _ (by omega)]
          exact HR.out
        have hbw2 : Below w.heap.size w w2 := (hbw.trans (hbr.mono (by omega))).trans (((Below.refl _ wr).alloc (Nat.le_refl _) _).trans (hb2.mono (by simp)) |>.mono (by omega))
        obtain ⟨o, ho⟩ : ∃ o, o = opcOf r y z := ⟨_, rfl⟩
        rw [← ho]
        have HO : Hid (opcOf r y z = o) := ho.symm
        clear ho
        go_wp2_with (refine wpList_store_rowTo rfl 31 _ _ rfl rfl w.heap.size #[.string ⟨o.text.toArray⟩, .int .i64 o.arg, .int .i64 o.y, .int .i64 o.bytes, .int .i64 o.cycles, .int .i64 o.taken] rfl rfl 31 _ HR2.out (by kernel_rfl) rfl (by simp [Value.oneCell']) ?_)
        refine bodyPost_ret (v := .tuple #[opcV o, .bool true]) (results_row_tmp Tryd.results5 _ _ w.heap.size 31 _ (0, 0) _ rfl (setRow_heap _ _ _ _ _ _ HR2.out) Tryd.underlying31 rfl (by kernel_rfl)) rfl ⟨?_, below_setRow hbw2 (Nat.le_refl _) _⟩
        rw [HRES.out, HO.out]; rfl
    · obtain rfl : k = rs.length := by omega
      have HRES : Hid (lookL code false = none) := by
        show _ = _
        rw [HL2.out, List.find?_eq_none.2 (fun r hr => by obtain ⟨j, hj, e⟩ := List.getElem_of_mem hr; rw [← e, hno.out j hj hj]; decide)]; rfl
      have HR2 : Hid (wr.heap[w.heap.size]? = some (.cells #[.string ⟨#[]⟩, .int .i64 0, .int .i64 0, .int .i64 0, .int .i64 0, .int .i64 0] 31 (0, 0))) := by
        show _ = _
        rw [hbr.block _ (by omega)]
        exact HR.out
      have hbw2 : Below w.heap.size w wr := hbw.trans (hbr.mono (by omega))
      go_wp2_with (refine wpList_store_rowTo rfl 31 _ _ rfl rfl w.heap.size #[.string ⟨#[]⟩, .int .i64 0, .int .i64 0, .int .i64 0, .int .i64 0, .int .i64 0] rfl rfl 31 _ HR2.out (by kernel_rfl) rfl (by simp [Value.oneCell']) ?_)
      refine bodyPost_ret (v := .tuple #[noneV, .bool false]) (results_row_tmp Tryd.results5 _ _ w.heap.size 31 _ (0, 0) _ rfl (setRow_heap _ _ _ _ _ _ HR2.out) Tryd.underlying31 rfl (by kernel_rfl)) rfl ⟨?_, below_setRow hbw2 (Nat.le_refl _) _⟩
      rw [HRES.out]; rfl
end Go.Proofs.YtmboogkpbcjfoaaDoor
