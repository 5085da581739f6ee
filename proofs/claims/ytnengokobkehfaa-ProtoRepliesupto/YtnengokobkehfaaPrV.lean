/- Proto: a frame is written. -/
import Derived.Test.YtnengokobkehfaaPrU
namespace Go.Proofs.Ytnengokobkehfaa
open Go.RowKit
set_option linter.unusedVariables false
variable {w w' W : World}
/-- what comes of writing -/
def EncAns (W : World) (r : Except Int (List Int)) (x : Ending) (w' : World) : Prop :=
  match r with
  | .ok l => (∃ v, x = .returned (.tuple #[v, .int .i64 0]) ∧ w'.ownsRow W.heap.size 5 1 v l.length (u8s l)) ∧ Up W w'
  | .error e => x = .returned (.tuple #[.slice none 0 0, .int .i64 e]) ∧ Up W w'
def emap (pre : List Int) : Except Int (List Int) → Except Int (List Int)
  | .ok l => .ok (pre ++ l)
  | .error e => .error e
theorem emap_emap (a b : List Int) (r : Except Int (List Int)) : emap a (emap b r) = emap (a ++ b) r := by cases r <;> simp [emap]
theorem emap_nil (r : Except Int (List Int)) : emap [] r = r := by cases r <;> rfl
theorem encPs_cons (p : Part) (ps : List Part) (c : C) : encPs (p :: ps) c = if fitB p.fit (c.get p.fld) then emap (dg (c.get p.fld).num p.width ++ (c.get p.fld).bs) (encPs ps (c.set V0 p.fld)) else .error 123 := by
  conv => lhs; unfold encPs
  by_cases h : fitB p.fit (c.get p.fld) = true
  · rw [if_pos h, if_pos h]
    cases encPs ps (c.set V0 p.fld) <;> rfl
  · rw [if_neg h, if_neg h]
theorem cCells_cell (c : C) (u : Fld → Value) (a : Fld) : (cCells c u)[a.off]? = some (.int .i64 (c.get a).num) ∧ (cCells c u)[a.off + 1]? = some (u a) := by cases a <;> exact ⟨rfl, rfl⟩
theorem run_append_none_c {P : Program} {w : World} (base : Nat) (t ty e : TypeId) (i : TypeInfo) (size c : Nat) (ht : P.underlying t = some (.slice e)) (hi : P.info? e = some i) (v : Value) (n : Nat) (xs : List Value) (hown : w.ownsRow base e size v n xs) :
    (Builtin.append_ #[t, t] ty #[v, .slice none 0 c]).run P w = .ok v w := by
  rcases hown.2 with ⟨rfl, rfl⟩ | ⟨g, cap, cur, rfl, _, _, hnc, _⟩
  · simp [Builtin.append_, run_underlying ht, sizeOf, typeInfo, hi, Builtin.lenOf, Builtin.firstCells]
  · simp [Builtin.append_, run_underlying ht, sizeOf, typeInfo, hi, Builtin.lenOf, Builtin.firstCells, hnc, storeCells]
/-- an append within a region -/
theorem wp_append_bs {lo : Nat} (w : World) {o : Oper} {a : Act} {K : Act → World → Prop} {Q : Exit → Act → World → Prop} (s x : Operand)
    (ho : o.op = .call { callee := .builtin .append, args := #[s, x], argTypes := #[22, 22] })
    (base : Nat) (v : Value) (xs : List Int) (hs : a.eval s = v) (hown : w.ownsRow base 5 1 v xs.length (u8s xs)) (vx : Value) (ys : List Int) (hx : a.eval x = vx) (hb : Bs lo w vx ys)
    (h63 : xs.length + ys.length ≤ 4398046511104) (hbase : base ≤ w.heap.size)
    (h : ∀ v' w', w'.ownsRow base 5 1 v' (xs ++ ys).length (u8s (xs ++ ys)) → w.grownBy w' v.ownBlock → (v'.ownBlock = v.ownBlock ∨ v'.ownBlock = some w.heap.size) → K (a.put o.dst v') w') : o.wp Try.prog a w K Q := by
  obtain ⟨ad, g, off, c, hv, h1, h2, h3, h4⟩ := hb.ex
  subst hv
  cases ad with
  | none =>
    have e : ys = [] := by
      by_cases hl : 0 < ys.length
      · have := (h3 hl).1
        cases this
      · exact List.length_eq_zero_iff.1 (by omega)
    subst e
    have hr := run_append_none_c (P := Try.prog) (w := w) base 22 o.type 5 Try.t5 1 c Try.underlying22 (by kernel_rfl) v xs.length (u8s xs) hown
    unfold Oper.wp execOp
    simp only [ho, resolve, invoke, builtin, Sem.run_bind, Sem.run_pure, Result.andThen_ok, List.map_toArray, List.map_cons, List.map_nil, hs, hx, List.length_nil, hr]
    refine h v w ?_ ⟨rfl, rfl, rfl, Nat.le_refl _, fun _ _ _ => rfl⟩ (Or.inl rfl)
    rw [List.append_nil]
    exact hown
  | some ad =>
    have hc : ∀ j u, (u8s ys)[j]? = some u → w.cell? (ad.add j) = some u := fun j u hj => by
      have hjl : j < ys.length := by have := (List.getElem?_eq_some_iff.1 hj).1; rwa [u8s_len] at this
      have e := (h3 (by omega)).1
      injection e with e
      subst e
      rw [u8s_at (List.getElem?_eq_getElem hjl)] at hj
      injection hj with hj
      rw [← hj, addr_add]
      exact h4 j _ (List.getElem?_eq_getElem hjl)
    obtain ⟨v', w', hr, k2, k3, _, k5⟩ := run_append_own_at (P := Try.prog) w base 22 o.type 5 Try.t5 (.int .u8 0) 1 1 Try.underlying22 (by kernel_rfl) rfl rfl rfl rfl (by decide) v xs.length (u8s xs) hown ad ys.length c (u8s ys) (by rw [u8s_len, Nat.mul_one]) hc (u8s_one ys) (by unfold maxLen; omega) (by omega) hbase
    unfold Oper.wp execOp
    simp only [ho, resolve, invoke, builtin, Sem.run_bind, Sem.run_pure, Result.andThen_ok, List.map_toArray, List.map_cons, List.map_nil, hs, hx, hr]
    refine h v' w' ?_ k3 k5
    rw [u8s_append, List.length_append]
    exact k2
theorem part_len {p : Part} (hp : POk p) {c : C} (hc : c.cl) (hf : fitB p.fit (c.get p.fld) = true) : (c.get p.fld).bs.length ≤ 4294967295 := by
  have h1 := fit_bd hf
  have h2 := hp.hi
  have h3 := hc p.fld
  unfold V.cl at h3
  have h4 : (256 : Int) ^ p.width ≤ 4294967296 := by
    have := hp.w4
    rcases (show p.width = 0 ∨ p.width = 1 ∨ p.width = 2 ∨ p.width = 3 ∨ p.width = 4 by omega) with e | e | e | e | e <;> rw [e] <;> decide
  by_cases e : p.fld.list = true
  · rw [if_pos e] at h3
    omega
  · rw [if_neg e] at h3
    rw [h3]
    simp
set_option maxRecDepth 100000 in
set_option maxHeartbeats 1000000 in
theorem encode_any {T : Tab} {tv : Value} {c : C} {u : Fld → Value} (W : World) (hT : TabAt W tv T) (hB : BsC 0 W u c) (hcl : c.cl) (hTn : (T.all fun x => decide (x.2.length ≤ 5)) = true) :
    Calls Try.prog 22 #[.agg (cCells c u), tv] W (EncAns W (encF T c)) := by
  have HT : Hid (TabAt W tv T) := hT
  have HB : Hid (BsC 0 W u c) := hB
  have HCL : Hid c.cl := hcl
  have HTN : Hid ((T.all fun x => decide (x.2.length ≤ 5)) = true) := hTn
  obtain ⟨R, hR⟩ : ∃ R, R = encF T c := ⟨_, rfl⟩
  have HP : Hid (R = encF T c) := hR
  rw [← hR]
  clear hR hT hB hcl hTn
  have HA : Hid ((W.alloc (.cells (cCells c u) 63)).heap[W.heap.size]? = some (.cells (cCells c u) 63 (0, 0))) := heap_alloc_new W _
  have k0 : (W.alloc (.cells (cCells c u) 63)).cell? ⟨W.heap.size, 0, none⟩ = some (.int .i64 c.kind) := heap_cell HA.out rfl
  go_enter Try.func22, Try.ntmps22
  go_wp2_with fail
  refine (partsOf_any c.kind W _ HT.out ((Up.refl W).alloc _)).mono ?_
  cases hl : look T c.kind with
  | none =>
    have HE : Hid (R = .error 122) := by show _ = _; rw [HP.out]; unfold encF; rw [hl]
    rintro e2 w3 ⟨rfl, hU⟩
    have HU3 : Hid (Up W w3) := ((Up.refl W).alloc _).trans hU
    clear hU hl k0
    go_wp2_with fail
    go_ret2
    show EncAns W R _ _
    rw [HE.out]
    exact ⟨rfl, HU3.out⟩
  | some ps =>
    have HE : Hid (R = match encPs ps c with | .ok l => .ok (dg (1 + l.length : Nat) 4 ++ (dg c.kind 1 ++ l)) | .error e => .error e) := by
      show _ = _
      rw [HP.out]
      unfold encF
      rw [hl]
      rfl
    have hp5 : ps.length ≤ 5 := of_decide_eq_true (List.all_eq_true.1 HTN.out _ (look_mem hl))
    rintro e2 w3 ⟨⟨pv, rfl, hPs⟩, hU⟩
    have hA3 : w3.heap[W.heap.size]? = some (.cells (cCells c u) 63 (0, 0)) := (hU.block _ (heap_at HA.out)).trans HA.out
    have k3 : w3.cell? ⟨W.heap.size, 0, none⟩ = some (.int .i64 c.kind) := heap_cell hA3 rfl
    have HU3 : Hid (Up W w3) := ((Up.refl W).alloc _).trans hU
    have HA3 : Hid (w3.heap[W.heap.size]? = some (.cells (cCells c u) 63 (0, 0))) := hA3
    have HOK : Hid (∀ p ∈ ps, POk p) := hPs.ok
    obtain ⟨pa, pg, pc, rfl, p1, p2, p3, p4⟩ := hPs.ex
    have HPA : Hid (0 < ps.length → pa = some ⟨pg, 0, none⟩) := p3
    have HP4 : Hid (∀ j p, ps[j]? = some p → ∃ fv, W.rangeAt pg (j * 4) (partCells p fv) ∧ FitAt W fv p.fit) := p4
    obtain ⟨n, hn⟩ : ∃ n, n = ps.length := ⟨_, rfl⟩
    have HN : Hid (n = ps.length) := hn
    have hni : (n : Int) ≤ 5 := by omega
    have hn5 : n ≤ 5 := by omega
    rw [← hn] at p1 ⊢
    have hsz3 := heap_at hA3
    clear hn hPs p3 p4 p2 hl k0 hU hA3 HP hp5
    go_wp2_with fail
    refine (withNumber_any (base := W.heap.size + 1) (xs := []) c.kind 1 (by omega) w3 (World.ownsRow_nil _ _ _ _) (by simp) (by omega)).mono ?_
    rintro e4 w4 ⟨bv, rfl, ho4, hg4⟩
    have u4 : Up w3 w4 := hg4.up rfl
    have HU4 : Hid (Up W w4) := HU3.out.trans u4
    have HA4 : Hid (w4.heap[W.heap.size]? = some (.cells (cCells c u) 63 (0, 0))) := (u4.block _ hsz3).trans HA3.out
    have HO4 : Hid (w4.ownsRow (W.heap.size + 1) 5 1 bv (dg c.kind 1 ++ []).length (u8s (dg c.kind 1 ++ []))) := by rw [List.append_nil]; exact ho4
    obtain ⟨ba, bn, bc, hbv⟩ := own_slice3 ho4
    subst hbv
    clear ho4 hg4 u4 k3 HA3 HU3
    go_wp2_with fail
    go_loopw [8, 26] (fun bv i wr => ∃ (k : Nat) (pre : List Int) (ck : C) (uk : Fld → Value), k ≤ n ∧ i = .int .i64 k ∧ pre.length ≤ k * 4294967300 ∧ Hid (encPs ps c = emap pre (encPs (ps.drop k) ck)) ∧ Hid ck.cl ∧ Hid (BsC 0 W uk ck) ∧ Hid (wr.heap[W.heap.size]? = some (.cells (cCells ck uk) 63 (0, 0))) ∧ Hid (wr.ownsRow (W.heap.size + 1) 5 1 bv (dg c.kind 1 ++ pre).length (u8s (dg c.kind 1 ++ pre))) ∧ Hid (Up W wr)) (fun _ i _ => n - (intOf i).toNat)
    case atStart => exact ⟨0, [], c, u, Nat.zero_le _, rfl, Nat.zero_le _, (emap_nil _).symm, HCL, HB, HA4, HO4, HU4⟩
    case round =>
      obtain ⟨k, pre, ck, uk, hk, rfl, hpl, hI, hCl, hB, hA, hO, hU⟩ := hrel
      obtain ⟨ya, yn, yc, hyv⟩ := own_slice3 hO.out
      subst hyv
      have hcb := heap_at hA.out
      by_cases hlt : k < n
      · skip
        have hlt' : k < ps.length := by rw [← HN.out]; exact hlt
        obtain ⟨p, hp⟩ : ∃ p, p = ps[k] := ⟨_, rfl⟩
        have hpo : POk p := HOK.out p (by rw [hp]; exact List.getElem_mem hlt')
        obtain ⟨fv, q1, q2⟩ := HP4.out k p (by rw [hp]; exact List.getElem?_eq_getElem hlt')
        have ea := HPA.out (by omega)
        subst ea
        obtain ⟨t, ht⟩ : ∃ t, t = fitB p.fit (ck.get p.fld) := ⟨_, rfl⟩
        have HTT : Hid (t = fitB p.fit (ck.get p.fld)) := ht
        have hI2 : Hid (encPs ps c = emap pre (if t then emap (dg (ck.get p.fld).num p.width ++ (ck.get p.fld).bs) (encPs (ps.drop (k + 1)) (ck.set V0 p.fld)) else .error 123)) := by
          show _ = _
          rw [hI.out, List.drop_eq_getElem_cons hlt', ← hp, encPs_cons, ht]
        have HRg : Hid (wr.rangeAt pg (k * 4) (partCells p fv)) := range_up q1 hU.out
        have HQ2 : Hid (FitAt W fv p.fit) := q2
        have HPO : Hid (POk p) := hpo
        have hcf := call_fld p.fld
        have hbs := hB.out p.fld
        obtain ⟨sa, sg, so, sc, hse, _⟩ := hbs.ex
        have HBf : Hid (Bs 0 W (uk p.fld) (ck.get p.fld).bs) := hbs
        obtain ⟨vn, hvn⟩ : ∃ vn, vn = (ck.get p.fld).num := ⟨_, rfl⟩
        have HVN : Hid (vn = (ck.get p.fld).num) := hvn
        obtain ⟨sl, hsl⟩ : ∃ sl, sl = (ck.get p.fld).bs.length := ⟨_, rfl⟩
        have HSL : Hid (sl = (ck.get p.fld).bs.length) := hsl
        have HSE : Hid (uk p.fld = .slice sa sl sc) := by show _ = _; rw [hse, hsl]
        have HW4 : Hid (∀ old, ((wr.alloc (.cells old 75)).setRow wr.heap.size (partCells p fv).toArray).heap[wr.heap.size]? = some (.cells (partCells p fv).toArray 75 (0, 0)) ∧ Up wr ((wr.alloc (.cells old 75)).setRow wr.heap.size (partCells p fv).toArray)) := fun old => ⟨setRow_heap _ _ _ _ _ _ (heap_alloc_new wr _), ((Up.refl wr).alloc _).setRow (Nat.le_refl _) _⟩
        have HPb : Hid (∀ w4 : World, w4.heap[wr.heap.size]? = some (.cells (partCells p fv).toArray 75 (0, 0)) → Up wr w4 → w4.cell? ⟨wr.heap.size, 0, none⟩ = some (.func (.func (fldK p.fld)) #[] #[]) ∧ w4.cell? ⟨wr.heap.size, 2, none⟩ = some (.int .i64 p.width) ∧ w4.cell? ⟨wr.heap.size, 3, none⟩ = some fv ∧ w4.cell? ⟨W.heap.size, p.fld.off, none⟩ = some (.int .i64 vn) ∧ w4.cell? ⟨W.heap.size, p.fld.off + 1, none⟩ = some (.slice sa sl sc)) := fun w4 hh uu => by
          have hc4 := (uu.block _ hcb).trans hA.out
          refine ⟨heap_cell hh rfl, heap_cell hh rfl, heap_cell hh rfl, heap_cell hc4 ?_, heap_cell hc4 ?_⟩
          · rw [hvn]; exact (cCells_cell ck uk p.fld).1
          · rw [← HSE.out]; exact (cCells_cell ck uk p.fld).2
        have HF0 : Hid (∀ w4 : World, Up wr w4 → Calls Try.prog (fldK p.fld) #[.pointer (some ⟨W.heap.size, 0, none⟩)] w4 fun e w' => e = .returned (.pointer (some ⟨W.heap.size, p.fld.off, none⟩)) ∧ w' = w4) := fun w4 uu => fld_any p.fld W.heap.size w4 _ (heap_cell ((uu.block _ hcb).trans hA.out) rfl)
        clear q1 q2 hpo hp hlt' hI ht hbs hse hvn hsl
        go_wp2_with (first
          | (refine wpList_load_mid rfl 75 _ rfl pg (k * 4) rfl (partCells p fv) _ HRg.out Try.underlying75 rfl (by kernel_rfl) ?_)
          | (refine wpList_store_rowTo rfl 75 _ _ rfl rfl wr.heap.size (partCells p fv).toArray rfl rfl 75 _ (heap_alloc_new wr _) (by kernel_rfl) rfl (part_one HQ2.out) ?_
             have hq := HW4.out #[.nilFunc, .nilFunc, .int .i64 0, .nilFunc]
             generalize World.setRow _ _ _ = w4 at hq ⊢
             have HPB : Hid (w4.heap[wr.heap.size]? = some (.cells (partCells p fv).toArray 75 (0, 0))) := hq.1
             have HU4 : Hid (Up wr w4) := hq.2
             obtain ⟨m0, m2, m3, m4, m5⟩ := HPb.out w4 hq.1 hq.2
             clear hq))
        refine (HF0.out w4 HU4.out).mono ?_
        rintro e5 w5 ⟨rfl, hw5⟩
        have hw5 : w5 = w4 := hw5
        subst hw5
        have HFT : Hid (∀ w6 : World, Up w5 w6 → FitAt w6 fv p.fit) := fun w6 u6 => HQ2.out.up (hU.out.trans (HU4.out.trans u6))
        have hfc := HQ2.out
        cases hpf : p.fit with
        | btw lo hi =>
          rw [hpf] at hfc
          obtain ⟨b1, b2, rfl, c1, c2⟩ := hfc
          have HPF : Hid (fitB (.btw lo hi) ⟨vn, (ck.get p.fld).bs⟩ = t) := by show _ = _; rw [HTT.out, HVN.out, hpf]
          have HC : Hid (∀ w6 : World, Up w5 w6 → w6.cell? ⟨b1, 0, none⟩ = some (.int .i64 lo) ∧ w6.cell? ⟨b2, 0, none⟩ = some (.int .i64 hi)) := fun w6 u6 => by
            have uu := hU.out.trans (HU4.out.trans u6)
            exact ⟨(uu.cell (World.block_lt_of_cell? _ _ c1)).trans c1, (uu.cell (World.block_lt_of_cell? _ _ c2)).trans c2⟩
          clear c1 c2 hpf
          go_wp2_with fail
          refine wp_still2 5 (by kernel_rfl) (by kernel_rfl) ?_
          intro w6 hw6
          have u6 : Up w5 w6 := by rw [hw6]; exact (Up.refl _).drew
          obtain ⟨n0, n2, n3, n4, n5⟩ := HPb.out w6 ((u6.block _ (heap_at HPB.out)).trans HPB.out) (HU4.out.trans u6)
          have U6 : Hid (Up w5 w6) := u6
          clear hw6 u6 n0 n2 m0 m2 m3 m4 m5
          simp only [List.take_succ_cons, List.take_zero, List.drop_succ_cons, List.drop_zero]
          repeat (go_big_quiet_step (fail))
          refine wpQuiet_nil ?_
          clear n3 n4 n5
          go_wp2_with fail
          refine (between1_any lo hi vn _ b1 b2 w6 (HC.out w6 U6.out).1 (HC.out w6 U6.out).2 (ck.get p.fld).bs).mono ?_
          rintro e7 w7 ⟨rfl, hU7⟩
          rw [HPF.out]
          have U7 : Hid (Up w5 w7) := U6.out.trans hU7
          clear hU7 HC HPF
          cases t with
          | false =>
            have HE2 : Hid (R = .error 123) := by show _ = _; rw [HE.out, hI2.out]; rfl
            go_wp2_with fail
            go_ret2
            show EncAns W R _ _
            rw [HE2.out]
            exact ⟨rfl, hU.out.trans (HU4.out.trans U7.out)⟩
          | true =>
            have hfl := part_len HPO.out hCl.out HTT.out.symm
            have hwd := HPO.out.w4
            have hpl2 : (dg c.kind 1 ++ pre).length ≤ 1 + k * 4294967300 := by rw [List.length_append, dg_len]; omega
            have HI3 : Hid (encPs ps c = emap (pre ++ (dg (ck.get p.fld).num p.width ++ (ck.get p.fld).bs)) (encPs (ps.drop (k + 1)) (ck.set V0 p.fld))) := by show _ = _; rw [hI2.out, if_pos rfl, emap_emap]
            have hyl : ∀ b, (Value.slice ya yn yc).ownBlock = some b → W.heap.size + 1 ≤ b ∧ b < wr.heap.size := fun b hb => hO.out.lt b hb
            have HYL : Hid (∀ b, (Value.slice ya yn yc).ownBlock = some b → W.heap.size + 1 ≤ b ∧ b < wr.heap.size) := hyl
            have U47 : Hid (Up wr w7) := HU4.out.trans U7.out
            obtain ⟨m0, m2, m3, m4, m5⟩ := HPb.out w7 ((U7.out.block _ (heap_at HPB.out)).trans HPB.out) U47.out
            have hs7 := U47.out.size
            clear hyl m0 m3
            go_wp2_with fail
            refine wp_region_held_drew (S := fun w' : World => w'.cell? ⟨W.heap.size, p.fld.off, none⟩ = some (.int .i64 vn) ∧ w'.cell? ⟨W.heap.size, p.fld.off + 1, none⟩ = some (.slice sa sl sc) ∧ w'.cell? ⟨wr.heap.size, 2, none⟩ = some (.int .i64 p.width)) (by kernel_rfl) ?_ (fun hHeld => ?_)
            · (try dsimp only); exact ⟨m4, m5, m2⟩
            · skip
              refine wpAnyH_take (i := 0) (v := ?_) (by simp only [List.getElem?_toArray, List.getElem?_cons_zero]; rfl) (by kernel_rfl) (by kernel_rfl) (by kernel_rfl) (by intro _ _ _ h; exact h) (Or.inl ⟨by rfl, ?_⟩) (by assumption) ?_
              rotate_left
              · (intro w hSw; (try dsimp only at hSw); go_simp <;> with_reducible rfl)
              try simp only [Act.put, List.setIfInBounds_toArray, List.set_cons_zero, List.set_cons_succ]
              refine wpAnyH_take (i := 1) (v := ?_) (by simp only [List.getElem?_toArray, List.getElem?_cons_succ, List.getElem?_cons_zero]; rfl) (by kernel_rfl) (by kernel_rfl) (by kernel_rfl) (by intro _ _ _ h; exact h) (Or.inl ⟨by rfl, ?_⟩) (by assumption) ?_
              rotate_left
              · (intro w hSw; (try dsimp only at hSw); go_simp <;> with_reducible rfl)
              try simp only [Act.put, List.setIfInBounds_toArray, List.set_cons_zero, List.set_cons_succ]
              refine wpAnyH_take (i := 2) (v := ?_) (by simp only [List.getElem?_toArray, List.getElem?_cons_succ, List.getElem?_cons_zero]; rfl) (by kernel_rfl) (by kernel_rfl) (by kernel_rfl) (by intro _ _ _ h; exact h) (Or.inl ⟨by rfl, ?_⟩) (by assumption) ?_
              rotate_left
              · (intro w hSw; (try dsimp only at hSw); go_simp <;> with_reducible rfl)
              try simp only [Act.put, List.setIfInBounds_toArray, List.set_cons_zero, List.set_cons_succ]
              refine wpAnyH_take (i := 3) (v := ?_) (by simp only [List.getElem?_toArray, List.getElem?_cons_succ, List.getElem?_cons_zero]; rfl) (by kernel_rfl) (by kernel_rfl) (by kernel_rfl) (by intro _ _ _ h; exact h) (Or.inl ⟨by rfl, ?_⟩) (by assumption) ?_
              rotate_left
              · (intro w hSw; (try dsimp only at hSw); go_simp <;> with_reducible rfl)
              try simp only [Act.put, List.setIfInBounds_toArray, List.set_cons_zero, List.set_cons_succ]
              refine wpAnyH_take (i := 4) (v := ?_) (by simp only [List.getElem?_toArray, List.getElem?_cons_succ, List.getElem?_cons_zero]; rfl) (by kernel_rfl) (by kernel_rfl) (by kernel_rfl) (by intro _ _ _ h; exact h) (Or.inl ⟨by rfl, ?_⟩) (by assumption) ?_
              rotate_left
              · (intro w hSw; (try dsimp only at hSw); go_simp <;> with_reducible rfl)
              try simp only [Act.put, List.setIfInBounds_toArray, List.set_cons_zero, List.set_cons_succ]
              refine wpAnyH_take (i := 5) (v := ?_) (by simp only [List.getElem?_toArray, List.getElem?_cons_succ, List.getElem?_cons_zero]; rfl) (by kernel_rfl) (by kernel_rfl) (by kernel_rfl) (by intro _ _ _ h; exact h) (Or.inl ⟨by rfl, ?_⟩) (by assumption) ?_
              rotate_left
              · (intro w hSw; (try dsimp only at hSw); go_simp <;> with_reducible rfl)
              try simp only [Act.put, List.setIfInBounds_toArray, List.set_cons_zero, List.set_cons_succ]
              refine wpAnyH_take (i := 6) (v := ?_) (by simp only [List.getElem?_toArray, List.getElem?_cons_succ, List.getElem?_cons_zero]; rfl) (by kernel_rfl) (by kernel_rfl) (by kernel_rfl) (by intro _ _ _ h; exact h) (Or.inl ⟨by rfl, ?_⟩) (by assumption) ?_
              rotate_left
              · (intro w hSw; (try dsimp only at hSw); go_simp <;> with_reducible rfl)
              try simp only [Act.put, List.setIfInBounds_toArray, List.set_cons_zero, List.set_cons_succ]
              refine wpAnyH_take (i := 8) (v := ?_) (by simp only [List.getElem?_toArray, List.getElem?_cons_succ, List.getElem?_cons_zero]; rfl) (by kernel_rfl) (by kernel_rfl) (by kernel_rfl) (by intro _ _ _ h; exact h) (Or.inl ⟨by rfl, ?_⟩) (by assumption) ?_
              rotate_left
              · (intro w hSw; (try dsimp only at hSw); go_simp <;> with_reducible rfl)
              try simp only [Act.put, List.setIfInBounds_toArray, List.set_cons_zero, List.set_cons_succ]
              refine wpAnyH_take (i := 9) (v := ?_) (by simp only [List.getElem?_toArray, List.getElem?_cons_succ, List.getElem?_cons_zero]; rfl) (by kernel_rfl) (by kernel_rfl) (by kernel_rfl) (by intro _ _ _ h; exact h) (Or.inl ⟨by rfl, ?_⟩) (by assumption) ?_
              rotate_left
              · (intro w hSw; (try dsimp only at hSw); go_simp <;> with_reducible rfl)
              try simp only [Act.put, List.setIfInBounds_toArray, List.set_cons_zero, List.set_cons_succ]
              refine wpAnyH_take (i := 10) (v := ?_) (by simp only [List.getElem?_toArray, List.getElem?_cons_succ, List.getElem?_cons_zero]; rfl) (by kernel_rfl) (by kernel_rfl) (by kernel_rfl) (by intro _ _ _ h; exact h) (Or.inl ⟨by rfl, ?_⟩) (by assumption) ?_
              rotate_left
              · (intro w hSw; (try dsimp only at hSw); go_simp <;> with_reducible rfl)
              try simp only [Act.put, List.setIfInBounds_toArray, List.set_cons_zero, List.set_cons_succ]
              refine wpAnyH_take (i := 11) (v := ?_) (by simp only [List.getElem?_toArray, List.getElem?_cons_succ, List.getElem?_cons_zero]; rfl) (by kernel_rfl) (by kernel_rfl) (by kernel_rfl) (by intro _ _ _ h; exact h) (Or.inl ⟨by rfl, ?_⟩) (by assumption) ?_
              rotate_left
              · (intro w hSw; (try dsimp only at hSw); go_simp <;> with_reducible rfl)
              try simp only [Act.put, List.setIfInBounds_toArray, List.set_cons_zero, List.set_cons_succ]
              refine wpAnyH_ready (rs := [7]) (by kernel_rfl) (by simp) ?_
              refine AllReadyH.cons (by simp only [List.getElem?_toArray, List.getElem?_cons_succ, List.getElem?_cons_zero]; rfl) (fun KK hK => ?_) AllReadyH.nil
              go_simp
              refine (withNumber_any (base := W.heap.size + 1) (xs := dg c.kind 1 ++ pre) vn p.width hwd w7.drew (ownsRow_up hO.out (U47.out.trans (Up.refl w7).drew)) (by omega) (by show _ ≤ w7.heap.size; omega)).mono ?_
              rintro e8 w8 ⟨v8, rfl, ho8, hg8⟩
              have hc8 : w8.heap[W.heap.size]? = some (.cells (cCells ck uk) 63 (0, 0)) := (hg8.block W.heap.size (by show _ < w7.heap.size; omega) (fun e => by have := HYL.out _ e; omega)).trans ((U47.out.block _ hcb).trans hA.out)
              have hp8 : w8.heap[wr.heap.size]? = some (.cells (partCells p _).toArray 75 (0, 0)) := (hg8.block wr.heap.size (by show _ < w7.heap.size; have := heap_at HPB.out; have := U7.out.size; omega) (fun e => by have := HYL.out _ e; omega)).trans ((U7.out.block _ (heap_at HPB.out)).trans HPB.out)
              have HU8 : Hid (Up W w8) := ⟨hg8.os.trans (U47.out.os.trans hU.out.os), hg8.output.trans (U47.out.output.trans hU.out.output), Nat.le_trans (Nat.le_trans hU.out.size U47.out.size) hg8.size, fun b hb => (hg8.block b (Nat.lt_of_lt_of_le hb (Nat.le_trans hU.out.size U47.out.size)) (fun e => by have := HYL.out _ e; omega)).trans ((U47.out.block b (Nat.lt_of_lt_of_le hb hU.out.size)).trans (hU.out.block b hb))⟩
              have HO8 : Hid (w8.ownsRow (W.heap.size + 1) 5 1 v8 (dg c.kind 1 ++ pre ++ dg vn p.width).length (u8s (dg c.kind 1 ++ pre ++ dg vn p.width))) := ho8
              have HC8 : Hid (w8.heap[W.heap.size]? = some (.cells (cCells ck uk) 63 (0, 0))) := hc8
              have HP8 : Hid _ := hp8
              have HY8 : Hid (∀ b, v8.ownBlock = some b → b ≠ wr.heap.size) := fun b hb => by
                rcases hg8.new b hb with e | e
                · have := HYL.out b e
                  omega
                · have e : w7.heap.size ≤ b := e
                  have := heap_at HPB.out
                  have := U7.out.size
                  omega
              refine hK.out _ _ ?_ (fun hHeld => ?_)
              · (try dsimp only)
                refine ⟨heap_cell hc8 ?_, heap_cell hc8 ?_, heap_cell hp8 rfl⟩
                · rw [HVN.out]; exact (cCells_cell ck uk p.fld).1
                · rw [← HSE.out]; exact (cCells_cell ck uk p.fld).2
              obtain ⟨xa, xn, xc, hxv⟩ := own_slice3 ho8
              subst hxv
              clear ho8 hg8 hc8 hp8
              clear hK KK
              try simp only [Act.put, List.setIfInBounds_toArray, List.set_cons_zero, List.set_cons_succ]
              refine wpAnyH_ready (rs := [12]) (by kernel_rfl) (by simp) ?_
              refine AllReadyH.cons (by simp only [List.getElem?_toArray, List.getElem?_cons_succ, List.getElem?_cons_zero]; rfl) (fun KK hK => ?_) AllReadyH.nil
              refine wp_append_bs (lo := 0) w8 _ _ rfl (W.heap.size + 1) (.slice xa xn xc) (dg c.kind 1 ++ pre ++ dg vn p.width) rfl HO8.out (.slice sa sl sc) (ck.get p.fld).bs rfl (by rw [← HSE.out]; exact HBf.out.up HU8.out) (by rw [List.length_append, dg_len]; omega) (by have := HU8.out.size; have := heap_at HC8.out; omega) (fun v9 w9 ho9 hg9 hw9 => ?_)
              have hl8 : ∀ b, (Value.slice xa xn xc).ownBlock = some b → W.heap.size + 1 ≤ b := fun b hb => (HO8.out.lt b hb).1
              have hc9 : w9.heap[W.heap.size]? = some (.cells (cCells ck uk) 63 (0, 0)) := (hg9.block W.heap.size (heap_at HC8.out) (fun e => by have := hl8 _ e.symm; omega)).trans HC8.out
              have hp9 := (hg9.block wr.heap.size (heap_at HP8.out) (fun e => HY8.out _ e.symm rfl)).trans HP8.out
              have HU9 : Hid (Up W w9) := ⟨hg9.os.trans HU8.out.os, hg9.output.trans HU8.out.output, Nat.le_trans HU8.out.size hg9.size, fun b hb => (hg9.block b (Nat.lt_of_lt_of_le hb HU8.out.size) (fun e => by have := hl8 _ e.symm; omega)).trans (HU8.out.block b hb)⟩
              have HA9 : Hid (w9.heap[W.heap.size]? = some (.cells (cCells ck uk) 63 (0, 0))) := hc9
              have HO9 : Hid (w9.ownsRow (W.heap.size + 1) 5 1 v9 (dg c.kind 1 ++ pre ++ dg vn p.width ++ (ck.get p.fld).bs).length (u8s (dg c.kind 1 ++ pre ++ dg vn p.width ++ (ck.get p.fld).bs))) := ho9
              refine hK.out _ _ ?_ (fun hHeld => ?_)
              · (try dsimp only)
                refine ⟨heap_cell hc9 ?_, heap_cell hc9 ?_, heap_cell hp9 rfl⟩
                · rw [HVN.out]; exact (cCells_cell ck uk p.fld).1
                · rw [← HSE.out]; exact (cCells_cell ck uk p.fld).2
              clear ho9 hg9 hw9 hl8 hc9 hp9
              clear hK KK
              try simp only [Act.put, List.setIfInBounds_toArray, List.set_cons_zero, List.set_cons_succ]
              refine wpAnyH_take (i := 13) (v := ?_) (by simp only [List.getElem?_toArray, List.getElem?_cons_succ, List.getElem?_cons_zero]; rfl) (by kernel_rfl) (by kernel_rfl) (by kernel_rfl) (by intro _ _ _ h; exact h) (Or.inl ⟨by rfl, ?_⟩) (by assumption) ?_
              rotate_left
              · (intro w hSw; (try dsimp only at hSw); go_simp <;> with_reducible rfl)
              try simp only [Act.put, List.setIfInBounds_toArray, List.set_cons_zero, List.set_cons_succ]
              refine wpAnyH_done (by kernel_rfl) ?_ _
              have HTh : Hid (w9.there W.heap.size p.fld.off 2) := there_heap HA9.out (by rw [cCells_size]; exact off_le _)
              have HST : Hid ((w9.setCells W.heap.size p.fld.off [.int .i64 0, .slice none 0 0]).heap[W.heap.size]? = some (.cells (cCells (ck.set V0 p.fld) (upd uk (.slice none 0 0) p.fld)) 63 (0, 0)) ∧ (w9.setCells W.heap.size p.fld.off [.int .i64 0, .slice none 0 0]).ownsRow (W.heap.size + 1) 5 1 v9 (dg c.kind 1 ++ (pre ++ (dg (ck.get p.fld).num p.width ++ (ck.get p.fld).bs))).length (u8s (dg c.kind 1 ++ (pre ++ (dg (ck.get p.fld).num p.width ++ (ck.get p.fld).bs)))) ∧ Up W (w9.setCells W.heap.size p.fld.off [.int .i64 0, .slice none 0 0])) := by
                have fr := fr_setCells W.heap.size [.int .i64 0, .slice none 0 0] p.fld.off w9
                refine ⟨?_, ?_, Fr.up HU9.out (Nat.le_refl _) fr⟩
                · have h1 := heap_setCells_same W.heap.size 63 [.int .i64 0, .slice none 0 0] p.fld.off _ w9 HA9.out
                  rw [cCells_set ck uk 0 [] (.slice none 0 0) p.fld] at h1
                  exact h1
                · have h2 := HO9.out
                  rw [List.append_assoc, List.append_assoc] at h2
                  rw [← HVN.out]
                  exact ownsRow_block h2 fun g hg => fr.block g (h2.lt g hg).2 (by have := h2.lt g hg; omega)
              have HPL : Hid ((pre ++ (dg (ck.get p.fld).num p.width ++ (ck.get p.fld).bs)).length ≤ (k + 1) * 4294967300) := by
                show _ ≤ _
                rw [List.length_append, List.length_append, dg_len]
                omega
              obtain ⟨za, zn, zc, hzv⟩ := own_slice3 HO9.out
              subst hzv
              go_wp2_with (refine wpList_store_mid rfl 59 _ _ rfl W.heap.size p.fld.off #[.int .i64 0, .slice none 0 0] rfl rfl HTh.out (by kernel_rfl) (by simp [Value.oneCell']) ?_)
              go_roundw
              case rel => exact ⟨k + 1, _, ck.set V0 p.fld, upd uk (.slice none 0 0) p.fld, by omega, by go_num, HPL.out, HI3, hCl.out.set (V0_cl _), hB.out.set (v := V0) (Bs.nil 0 W) p.fld, HST.out.1, HST.out.2.1, HST.out.2.2⟩
              case measure => simp [intOf]; omega
        | name =>
          rw [hpf] at hfc
          have hfc : fv = .func (.func 35) #[] #[] := hfc
          subst hfc
          have HPF : Hid (fitB .name ⟨vn, (ck.get p.fld).bs⟩ = t) := by show _ = _; rw [HTT.out, HVN.out, hpf]
          have HBn : Hid (∀ w6 : World, Up w5 w6 → Bs 0 w6 (.slice sa sl sc) (ck.get p.fld).bs) := fun w6 u6 => by rw [← HSE.out]; exact HBf.out.up (hU.out.trans (HU4.out.trans u6))
          clear hpf
          go_wp2_with fail
          refine wp_still2 5 (by kernel_rfl) (by kernel_rfl) ?_
          intro w6 hw6
          have u6 : Up w5 w6 := by rw [hw6]; exact (Up.refl _).drew
          obtain ⟨n0, n2, n3, n4, n5⟩ := HPb.out w6 ((u6.block _ (heap_at HPB.out)).trans HPB.out) (HU4.out.trans u6)
          have U6 : Hid (Up w5 w6) := u6
          clear hw6 u6 n0 n2 m0 m2 m3 m4 m5
          simp only [List.take_succ_cons, List.take_zero, List.drop_succ_cons, List.drop_zero]
          repeat (go_big_quiet_step (fail))
          refine wpQuiet_nil ?_
          clear n3 n4 n5
          go_wp2_with fail
          refine (isName_any (lo := 0) (l := (ck.get p.fld).bs) vn w6 (HBn.out w6 U6.out)).mono ?_
          rintro e7 w7 ⟨rfl, hU7⟩
          rw [HPF.out]
          have U7 : Hid (Up w5 w7) := U6.out.trans hU7
          clear hU7 HBn HPF
          cases t with
          | false =>
            have HE2 : Hid (R = .error 123) := by show _ = _; rw [HE.out, hI2.out]; rfl
            go_wp2_with fail
            go_ret2
            show EncAns W R _ _
            rw [HE2.out]
            exact ⟨rfl, hU.out.trans (HU4.out.trans U7.out)⟩
          | true =>
            have hfl := part_len HPO.out hCl.out HTT.out.symm
            have hwd := HPO.out.w4
            have hpl2 : (dg c.kind 1 ++ pre).length ≤ 1 + k * 4294967300 := by rw [List.length_append, dg_len]; omega
            have HI3 : Hid (encPs ps c = emap (pre ++ (dg (ck.get p.fld).num p.width ++ (ck.get p.fld).bs)) (encPs (ps.drop (k + 1)) (ck.set V0 p.fld))) := by show _ = _; rw [hI2.out, if_pos rfl, emap_emap]
            have hyl : ∀ b, (Value.slice ya yn yc).ownBlock = some b → W.heap.size + 1 ≤ b ∧ b < wr.heap.size := fun b hb => hO.out.lt b hb
            have HYL : Hid (∀ b, (Value.slice ya yn yc).ownBlock = some b → W.heap.size + 1 ≤ b ∧ b < wr.heap.size) := hyl
            have U47 : Hid (Up wr w7) := HU4.out.trans U7.out
            obtain ⟨m0, m2, m3, m4, m5⟩ := HPb.out w7 ((U7.out.block _ (heap_at HPB.out)).trans HPB.out) U47.out
            have hs7 := U47.out.size
            clear hyl m0 m3
            go_wp2_with fail
            refine wp_region_held_drew (S := fun w' : World => w'.cell? ⟨W.heap.size, p.fld.off, none⟩ = some (.int .i64 vn) ∧ w'.cell? ⟨W.heap.size, p.fld.off + 1, none⟩ = some (.slice sa sl sc) ∧ w'.cell? ⟨wr.heap.size, 2, none⟩ = some (.int .i64 p.width)) (by kernel_rfl) ?_ (fun hHeld => ?_)
            · (try dsimp only); exact ⟨m4, m5, m2⟩
            · skip
              refine wpAnyH_take (i := 0) (v := ?_) (by simp only [List.getElem?_toArray, List.getElem?_cons_zero]; rfl) (by kernel_rfl) (by kernel_rfl) (by kernel_rfl) (by intro _ _ _ h; exact h) (Or.inl ⟨by rfl, ?_⟩) (by assumption) ?_
              rotate_left
              · (intro w hSw; (try dsimp only at hSw); go_simp <;> with_reducible rfl)
              try simp only [Act.put, List.setIfInBounds_toArray, List.set_cons_zero, List.set_cons_succ]
              refine wpAnyH_take (i := 1) (v := ?_) (by simp only [List.getElem?_toArray, List.getElem?_cons_succ, List.getElem?_cons_zero]; rfl) (by kernel_rfl) (by kernel_rfl) (by kernel_rfl) (by intro _ _ _ h; exact h) (Or.inl ⟨by rfl, ?_⟩) (by assumption) ?_
              rotate_left
              · (intro w hSw; (try dsimp only at hSw); go_simp <;> with_reducible rfl)
              try simp only [Act.put, List.setIfInBounds_toArray, List.set_cons_zero, List.set_cons_succ]
              refine wpAnyH_take (i := 2) (v := ?_) (by simp only [List.getElem?_toArray, List.getElem?_cons_succ, List.getElem?_cons_zero]; rfl) (by kernel_rfl) (by kernel_rfl) (by kernel_rfl) (by intro _ _ _ h; exact h) (Or.inl ⟨by rfl, ?_⟩) (by assumption) ?_
              rotate_left
              · (intro w hSw; (try dsimp only at hSw); go_simp <;> with_reducible rfl)
              try simp only [Act.put, List.setIfInBounds_toArray, List.set_cons_zero, List.set_cons_succ]
              refine wpAnyH_take (i := 3) (v := ?_) (by simp only [List.getElem?_toArray, List.getElem?_cons_succ, List.getElem?_cons_zero]; rfl) (by kernel_rfl) (by kernel_rfl) (by kernel_rfl) (by intro _ _ _ h; exact h) (Or.inl ⟨by rfl, ?_⟩) (by assumption) ?_
              rotate_left
              · (intro w hSw; (try dsimp only at hSw); go_simp <;> with_reducible rfl)
              try simp only [Act.put, List.setIfInBounds_toArray, List.set_cons_zero, List.set_cons_succ]
              refine wpAnyH_take (i := 4) (v := ?_) (by simp only [List.getElem?_toArray, List.getElem?_cons_succ, List.getElem?_cons_zero]; rfl) (by kernel_rfl) (by kernel_rfl) (by kernel_rfl) (by intro _ _ _ h; exact h) (Or.inl ⟨by rfl, ?_⟩) (by assumption) ?_
              rotate_left
              · (intro w hSw; (try dsimp only at hSw); go_simp <;> with_reducible rfl)
              try simp only [Act.put, List.setIfInBounds_toArray, List.set_cons_zero, List.set_cons_succ]
              refine wpAnyH_take (i := 5) (v := ?_) (by simp only [List.getElem?_toArray, List.getElem?_cons_succ, List.getElem?_cons_zero]; rfl) (by kernel_rfl) (by kernel_rfl) (by kernel_rfl) (by intro _ _ _ h; exact h) (Or.inl ⟨by rfl, ?_⟩) (by assumption) ?_
              rotate_left
              · (intro w hSw; (try dsimp only at hSw); go_simp <;> with_reducible rfl)
              try simp only [Act.put, List.setIfInBounds_toArray, List.set_cons_zero, List.set_cons_succ]
              refine wpAnyH_take (i := 6) (v := ?_) (by simp only [List.getElem?_toArray, List.getElem?_cons_succ, List.getElem?_cons_zero]; rfl) (by kernel_rfl) (by kernel_rfl) (by kernel_rfl) (by intro _ _ _ h; exact h) (Or.inl ⟨by rfl, ?_⟩) (by assumption) ?_
              rotate_left
              · (intro w hSw; (try dsimp only at hSw); go_simp <;> with_reducible rfl)
              try simp only [Act.put, List.setIfInBounds_toArray, List.set_cons_zero, List.set_cons_succ]
              refine wpAnyH_take (i := 8) (v := ?_) (by simp only [List.getElem?_toArray, List.getElem?_cons_succ, List.getElem?_cons_zero]; rfl) (by kernel_rfl) (by kernel_rfl) (by kernel_rfl) (by intro _ _ _ h; exact h) (Or.inl ⟨by rfl, ?_⟩) (by assumption) ?_
              rotate_left
              · (intro w hSw; (try dsimp only at hSw); go_simp <;> with_reducible rfl)
              try simp only [Act.put, List.setIfInBounds_toArray, List.set_cons_zero, List.set_cons_succ]
              refine wpAnyH_take (i := 9) (v := ?_) (by simp only [List.getElem?_toArray, List.getElem?_cons_succ, List.getElem?_cons_zero]; rfl) (by kernel_rfl) (by kernel_rfl) (by kernel_rfl) (by intro _ _ _ h; exact h) (Or.inl ⟨by rfl, ?_⟩) (by assumption) ?_
              rotate_left
              · (intro w hSw; (try dsimp only at hSw); go_simp <;> with_reducible rfl)
              try simp only [Act.put, List.setIfInBounds_toArray, List.set_cons_zero, List.set_cons_succ]
              refine wpAnyH_take (i := 10) (v := ?_) (by simp only [List.getElem?_toArray, List.getElem?_cons_succ, List.getElem?_cons_zero]; rfl) (by kernel_rfl) (by kernel_rfl) (by kernel_rfl) (by intro _ _ _ h; exact h) (Or.inl ⟨by rfl, ?_⟩) (by assumption) ?_
              rotate_left
              · (intro w hSw; (try dsimp only at hSw); go_simp <;> with_reducible rfl)
              try simp only [Act.put, List.setIfInBounds_toArray, List.set_cons_zero, List.set_cons_succ]
              refine wpAnyH_take (i := 11) (v := ?_) (by simp only [List.getElem?_toArray, List.getElem?_cons_succ, List.getElem?_cons_zero]; rfl) (by kernel_rfl) (by kernel_rfl) (by kernel_rfl) (by intro _ _ _ h; exact h) (Or.inl ⟨by rfl, ?_⟩) (by assumption) ?_
              rotate_left
              · (intro w hSw; (try dsimp only at hSw); go_simp <;> with_reducible rfl)
              try simp only [Act.put, List.setIfInBounds_toArray, List.set_cons_zero, List.set_cons_succ]
              refine wpAnyH_ready (rs := [7]) (by kernel_rfl) (by simp) ?_
              refine AllReadyH.cons (by simp only [List.getElem?_toArray, List.getElem?_cons_succ, List.getElem?_cons_zero]; rfl) (fun KK hK => ?_) AllReadyH.nil
              go_simp
              refine (withNumber_any (base := W.heap.size + 1) (xs := dg c.kind 1 ++ pre) vn p.width hwd w7.drew (ownsRow_up hO.out (U47.out.trans (Up.refl w7).drew)) (by omega) (by show _ ≤ w7.heap.size; omega)).mono ?_
              rintro e8 w8 ⟨v8, rfl, ho8, hg8⟩
              have hc8 : w8.heap[W.heap.size]? = some (.cells (cCells ck uk) 63 (0, 0)) := (hg8.block W.heap.size (by show _ < w7.heap.size; omega) (fun e => by have := HYL.out _ e; omega)).trans ((U47.out.block _ hcb).trans hA.out)
              have hp8 : w8.heap[wr.heap.size]? = some (.cells (partCells p _).toArray 75 (0, 0)) := (hg8.block wr.heap.size (by show _ < w7.heap.size; have := heap_at HPB.out; have := U7.out.size; omega) (fun e => by have := HYL.out _ e; omega)).trans ((U7.out.block _ (heap_at HPB.out)).trans HPB.out)
              have HU8 : Hid (Up W w8) := ⟨hg8.os.trans (U47.out.os.trans hU.out.os), hg8.output.trans (U47.out.output.trans hU.out.output), Nat.le_trans (Nat.le_trans hU.out.size U47.out.size) hg8.size, fun b hb => (hg8.block b (Nat.lt_of_lt_of_le hb (Nat.le_trans hU.out.size U47.out.size)) (fun e => by have := HYL.out _ e; omega)).trans ((U47.out.block b (Nat.lt_of_lt_of_le hb hU.out.size)).trans (hU.out.block b hb))⟩
              have HO8 : Hid (w8.ownsRow (W.heap.size + 1) 5 1 v8 (dg c.kind 1 ++ pre ++ dg vn p.width).length (u8s (dg c.kind 1 ++ pre ++ dg vn p.width))) := ho8
              have HC8 : Hid (w8.heap[W.heap.size]? = some (.cells (cCells ck uk) 63 (0, 0))) := hc8
              have HP8 : Hid _ := hp8
              have HY8 : Hid (∀ b, v8.ownBlock = some b → b ≠ wr.heap.size) := fun b hb => by
                rcases hg8.new b hb with e | e
                · have := HYL.out b e
                  omega
                · have e : w7.heap.size ≤ b := e
                  have := heap_at HPB.out
                  have := U7.out.size
                  omega
              refine hK.out _ _ ?_ (fun hHeld => ?_)
              · (try dsimp only)
                refine ⟨heap_cell hc8 ?_, heap_cell hc8 ?_, heap_cell hp8 rfl⟩
                · rw [HVN.out]; exact (cCells_cell ck uk p.fld).1
                · rw [← HSE.out]; exact (cCells_cell ck uk p.fld).2
              obtain ⟨xa, xn, xc, hxv⟩ := own_slice3 ho8
              subst hxv
              clear ho8 hg8 hc8 hp8
              clear hK KK
              try simp only [Act.put, List.setIfInBounds_toArray, List.set_cons_zero, List.set_cons_succ]
              refine wpAnyH_ready (rs := [12]) (by kernel_rfl) (by simp) ?_
              refine AllReadyH.cons (by simp only [List.getElem?_toArray, List.getElem?_cons_succ, List.getElem?_cons_zero]; rfl) (fun KK hK => ?_) AllReadyH.nil
              refine wp_append_bs (lo := 0) w8 _ _ rfl (W.heap.size + 1) (.slice xa xn xc) (dg c.kind 1 ++ pre ++ dg vn p.width) rfl HO8.out (.slice sa sl sc) (ck.get p.fld).bs rfl (by rw [← HSE.out]; exact HBf.out.up HU8.out) (by rw [List.length_append, dg_len]; omega) (by have := HU8.out.size; have := heap_at HC8.out; omega) (fun v9 w9 ho9 hg9 hw9 => ?_)
              have hl8 : ∀ b, (Value.slice xa xn xc).ownBlock = some b → W.heap.size + 1 ≤ b := fun b hb => (HO8.out.lt b hb).1
              have hc9 : w9.heap[W.heap.size]? = some (.cells (cCells ck uk) 63 (0, 0)) := (hg9.block W.heap.size (heap_at HC8.out) (fun e => by have := hl8 _ e.symm; omega)).trans HC8.out
              have hp9 := (hg9.block wr.heap.size (heap_at HP8.out) (fun e => HY8.out _ e.symm rfl)).trans HP8.out
              have HU9 : Hid (Up W w9) := ⟨hg9.os.trans HU8.out.os, hg9.output.trans HU8.out.output, Nat.le_trans HU8.out.size hg9.size, fun b hb => (hg9.block b (Nat.lt_of_lt_of_le hb HU8.out.size) (fun e => by have := hl8 _ e.symm; omega)).trans (HU8.out.block b hb)⟩
              have HA9 : Hid (w9.heap[W.heap.size]? = some (.cells (cCells ck uk) 63 (0, 0))) := hc9
              have HO9 : Hid (w9.ownsRow (W.heap.size + 1) 5 1 v9 (dg c.kind 1 ++ pre ++ dg vn p.width ++ (ck.get p.fld).bs).length (u8s (dg c.kind 1 ++ pre ++ dg vn p.width ++ (ck.get p.fld).bs))) := ho9
              refine hK.out _ _ ?_ (fun hHeld => ?_)
              · (try dsimp only)
                refine ⟨heap_cell hc9 ?_, heap_cell hc9 ?_, heap_cell hp9 rfl⟩
                · rw [HVN.out]; exact (cCells_cell ck uk p.fld).1
                · rw [← HSE.out]; exact (cCells_cell ck uk p.fld).2
              clear ho9 hg9 hw9 hl8 hc9 hp9
              clear hK KK
              try simp only [Act.put, List.setIfInBounds_toArray, List.set_cons_zero, List.set_cons_succ]
              refine wpAnyH_take (i := 13) (v := ?_) (by simp only [List.getElem?_toArray, List.getElem?_cons_succ, List.getElem?_cons_zero]; rfl) (by kernel_rfl) (by kernel_rfl) (by kernel_rfl) (by intro _ _ _ h; exact h) (Or.inl ⟨by rfl, ?_⟩) (by assumption) ?_
              rotate_left
              · (intro w hSw; (try dsimp only at hSw); go_simp <;> with_reducible rfl)
              try simp only [Act.put, List.setIfInBounds_toArray, List.set_cons_zero, List.set_cons_succ]
              refine wpAnyH_done (by kernel_rfl) ?_ _
              have HTh : Hid (w9.there W.heap.size p.fld.off 2) := there_heap HA9.out (by rw [cCells_size]; exact off_le _)
              have HST : Hid ((w9.setCells W.heap.size p.fld.off [.int .i64 0, .slice none 0 0]).heap[W.heap.size]? = some (.cells (cCells (ck.set V0 p.fld) (upd uk (.slice none 0 0) p.fld)) 63 (0, 0)) ∧ (w9.setCells W.heap.size p.fld.off [.int .i64 0, .slice none 0 0]).ownsRow (W.heap.size + 1) 5 1 v9 (dg c.kind 1 ++ (pre ++ (dg (ck.get p.fld).num p.width ++ (ck.get p.fld).bs))).length (u8s (dg c.kind 1 ++ (pre ++ (dg (ck.get p.fld).num p.width ++ (ck.get p.fld).bs)))) ∧ Up W (w9.setCells W.heap.size p.fld.off [.int .i64 0, .slice none 0 0])) := by
                have fr := fr_setCells W.heap.size [.int .i64 0, .slice none 0 0] p.fld.off w9
                refine ⟨?_, ?_, Fr.up HU9.out (Nat.le_refl _) fr⟩
                · have h1 := heap_setCells_same W.heap.size 63 [.int .i64 0, .slice none 0 0] p.fld.off _ w9 HA9.out
                  rw [cCells_set ck uk 0 [] (.slice none 0 0) p.fld] at h1
                  exact h1
                · have h2 := HO9.out
                  rw [List.append_assoc, List.append_assoc] at h2
                  rw [← HVN.out]
                  exact ownsRow_block h2 fun g hg => fr.block g (h2.lt g hg).2 (by have := h2.lt g hg; omega)
              have HPL : Hid ((pre ++ (dg (ck.get p.fld).num p.width ++ (ck.get p.fld).bs)).length ≤ (k + 1) * 4294967300) := by
                show _ ≤ _
                rw [List.length_append, List.length_append, dg_len]
                omega
              obtain ⟨za, zn, zc, hzv⟩ := own_slice3 HO9.out
              subst hzv
              go_wp2_with (refine wpList_store_mid rfl 59 _ _ rfl W.heap.size p.fld.off #[.int .i64 0, .slice none 0 0] rfl rfl HTh.out (by kernel_rfl) (by simp [Value.oneCell']) ?_)
              go_roundw
              case rel => exact ⟨k + 1, _, ck.set V0 p.fld, upd uk (.slice none 0 0) p.fld, by omega, by go_num, HPL.out, HI3, hCl.out.set (V0_cl _), hB.out.set (v := V0) (Bs.nil 0 W) p.fld, HST.out.1, HST.out.2.1, HST.out.2.2⟩
              case measure => simp [intOf]; omega
      · skip
        have ek : k = n := by omega
        subst ek
        have hI2 : Hid (encPs ps c = emap pre (if ck.emp then .ok [] else .error 123)) := by show _ = _; rw [hI.out, HN.out, List.drop_length]; rfl
        have HRg : Hid (wr.rangeAt W.heap.size 0 (cCells ck uk).toList) := range_heap hA.out
        go_wp2_with (refine wpList_load_mid rfl 63 _ rfl W.heap.size 0 rfl (cCells ck uk).toList _ HRg.out Try.underlying63 rfl (by kernel_rfl) ?_)
        refine (isEmpty_any ck uk wr).mono ?_
        rintro e5 w5 ⟨rfl, hU5⟩
        have HU5 : Hid (Up W w5) := hU.out.trans hU5
        have HO5 : Hid (w5.ownsRow (W.heap.size + 1) 5 1 (.slice ya yn yc) (dg c.kind 1 ++ pre).length (u8s (dg c.kind 1 ++ pre))) := ownsRow_up hO.out hU5
        have hs5 := HU5.out.size
        have hs6 := hU5.size
        clear hU5 HRg
        cases hem : ck.emp with
        | false =>
          have HE2 : Hid (R = .error 123) := by show _ = _; rw [HE.out, hI2.out, hem]; rfl
          clear hem hI hI2
          go_wp2_with fail
          go_ret2
          show EncAns W R _ _
          rw [HE2.out]
          exact ⟨rfl, HU5.out⟩
        | true =>
          have HE2 : Hid (R = .ok (dg (1 + pre.length : Nat) 4 ++ (dg c.kind 1 ++ pre))) := by show _ = _; rw [HE.out, hI2.out, hem]; simp [emap]
          have HYn : Hid (yn = 1 + pre.length) := by
            show _ = _
            have hh : (dg c.kind 1 ++ pre).length = 1 + pre.length := by rw [List.length_append, dg_len]
            rcases own_cases HO5.out with ⟨e1, e2, _⟩ | ⟨g, cap, e1, _⟩
            · omega
            · injection e1 with _ e1 _
              omega
          clear hem hI hI2
          go_wp2_with fail
          refine (withNumber_any (base := W.heap.size) (xs := []) (yn : Int) 4 (by omega) w5 (World.ownsRow_nil _ _ _ _) (by simp) (by omega)).mono ?_
          rintro e6 w6 ⟨fv, rfl, ho6, hg6⟩
          have u6 : Up w5 w6 := hg6.up rfl
          have HU6 : Hid (Up W w6) := HU5.out.trans u6
          obtain ⟨fa, fn_, fc, hfv⟩ := own_slice3 ho6
          subst hfv
          have HO6 : Hid (w6.ownsRow W.heap.size 5 1 (.slice fa fn_ fc) (dg (yn : Int) 4).length (u8s (dg (yn : Int) 4))) := ho6
          have HS6 : Hid (Src w6 (.slice ya yn yc) (dg c.kind 1 ++ pre)) := Src.of_own (ownsRow_up HO5.out u6)
          have HG6 : Hid (∀ b, (Value.slice fa fn_ fc).ownBlock = some b → W.heap.size ≤ b) := fun b hb => (ho6.lt b hb).1
          clear ho6 hg6 u6
          go_wp2_with (refine wpList_append_bytes rfl _ _ rfl W.heap.size (.slice fa fn_ fc) (dg (yn : Int) 4) rfl HO6.out (.slice ya yn yc) (dg c.kind 1 ++ pre) rfl HS6.out (by simp [dg_len]; omega) HU6.out.size (fun v8 w8 ho hg hw => ?_)
                       have HU8 : Hid (Up W w8) := ⟨hg.os.trans HU6.out.os, hg.output.trans HU6.out.output, Nat.le_trans HU6.out.size hg.size, fun b hb => (hg.block b (Nat.lt_of_lt_of_le hb HU6.out.size) (fun e => by have := HG6.out b e.symm; omega)).trans (HU6.out.block b hb)⟩
                       have HO8 : Hid (w8.ownsRow W.heap.size 5 1 v8 (dg (yn : Int) 4 ++ (dg c.kind 1 ++ pre)).length (u8s (dg (yn : Int) 4 ++ (dg c.kind 1 ++ pre)))) := ho
                       clear ho hg hw)
          go_ret2
          show EncAns W R _ _
          rw [HE2.out, ← HYn.out]
          exact ⟨⟨v8, rfl, HO8.out⟩, HU8.out⟩
end Go.Proofs.Ytnengokobkehfaa
