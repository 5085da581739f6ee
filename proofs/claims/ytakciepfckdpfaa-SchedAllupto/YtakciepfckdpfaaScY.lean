/- Sched: the document's own answer: Begin. -/
import Derived.Test.YtakciepfckdpfaaScX
namespace Go.Proofs.Ytakciepfckdpfaa
open Go.RowKit
set_option linter.unusedVariables false
set_option linter.unusedSimpArgs false
variable {w w' W : World} {K K' : Nat → Prop} {yb : Nat} {lv lv' sv sv' : Value} {S S' : Sd}
theorem own_zero {base n size : Nat} {ty : TypeId} {v : Value} {xs : List Value} (h : w.ownsRow base ty size v n xs) : w.ownsRow 0 ty size v n xs :=
  ⟨h.1, h.2.imp (fun h => h) fun ⟨g, cap, cur, q⟩ => ⟨g, cap, cur, q.1, Nat.zero_le _, q.2.2⟩⟩
theorem memCells_snoc (l : List Mem) (x : Mem) : memCells (l ++ [x]) = memCells l ++ x.cells := by
  rw [memCells_app]
  show memCells l ++ (x.cells ++ []) = _
  rw [List.append_nil]
set_option maxRecDepth 100000 in
set_option maxHeartbeats 2000000 in
theorem beginR_any (h : RfAt K W yb S) {s : Int} :
    Calls Try.prog 34 #[.pointer (some ⟨yb, 0, none⟩), .int .i64 s] W fun e w' => e = .returned (.tuple #[.int .i64 (S.begN s), .int .i64 (S.begE s)]) ∧ RfAt K w' yb (S.begin s) ∧ FK K W w' := by
  obtain ⟨lv, sv, h⟩ := h
  have HR : Hid (∀ w, Up W w → RfAt K w yb S ∧ FK K W w) := fun w u => h.refl_up u
  cases hs : S.slot s with
  | none =>
    have e1 : S.begE s = 131 := by unfold Sd.begE; rw [hs]
    have e2 : S.begN s = 0 := if_neg (by rw [e1]; decide)
    have e3 : S.begin s = S := if_neg (by rw [e1]; decide)
    rw [e1, e2, e3]
    have hno := Sd.slot_none hs
    obtain ⟨xa, xc, hxv, x1, x2⟩ := own_slice h.slo
    have k1 := h.k1
    subst hxv
    clear h e1 e2 e3 hs
    generalize S.slo.length = n at *
    by_cases h0 : s < 0
    · go_enter Try.func34, Try.ntmps34
      go_wp2_with fail
      go_ret2
      exact ⟨by first | rfl | (simp; done), HR.out _ (Up.refl W)⟩
    · have d1 : (n : Int) ≤ s := by omega
      go_enter Try.func34, Try.ntmps34
      go_wp2_with fail
      go_ret2
      exact ⟨by first | rfl | (simp; done), HR.out _ (Up.refl W)⟩
  | some x =>
    obtain ⟨h0, k, rfl, hk⟩ := Sd.slot_some hs
    have hkl := (List.getElem?_eq_some_iff.1 hk).1
    have hgd := h.gd.slo x (List.mem_of_getElem? hk)
    obtain ⟨g, c, rfl, c1, c2, kc, kz⟩ := h.slotAt hk
    have k1 := h.k1
    obtain ⟨ti, tr⟩ := x
    have d1 : ¬ (S.slo.length : Int) ≤ (k : Int) := by omega
    have d2 : (k : Int) < (S.slo.length : Int) := by omega
    have d3 : ¬ (k : Int) < 0 := by omega
    cases tr with
    | true =>
      have e1 : S.begE (k : Int) = 131 := by unfold Sd.begE; rw [hs]; rfl
      have e2 : S.begN (k : Int) = 0 := if_neg (by rw [e1]; decide)
      have e3 : S.begin (k : Int) = S := if_neg (by rw [e1]; decide)
      rw [e1, e2, e3]
      have kc2 : W.cell? ⟨g, k, none⟩ = some (.int .i64 ti) := kc
      have d4 : 0 ≤ ti := hgd rfl
      clear h e1 e2 e3 hs hk kc hgd
      generalize S.slo.length = n at *
      go_enter Try.func34, Try.ntmps34
      go_wp2_with fail
      go_ret2
      exact ⟨by first | rfl | (simp; done), HR.out _ (Up.refl W)⟩
    | false =>
      have kc2 : W.cell? ⟨g, k, none⟩ = some (.int .i64 (-1)) := kc
      obtain ⟨ra, rc, hrv, r1, r2⟩ := own_slice h.row
      have HK : Hid (∀ w, Up W w → w.cell? ⟨yb, 0, none⟩ = some (.slice ra S.rnd.length rc)) := fun w u => by rw [← hrv]; exact (h.up u).k0
      have HRg : Hid (∀ (w : World) (j : Nat) (l : Mem), Up W w → S.rnd[j]? = some l → ∃ q, ra = some ⟨q, 0, none⟩ ∧ w.rangeAt q (j * 2) l.cells) := fun w j l u hj => by
        have hr := (h.up u).row
        rcases own_cases hr with ⟨_, hn, _⟩ | ⟨q, cap, hv2, _⟩
        · have := (List.getElem?_eq_some_iff.1 hj).1
          omega
        · have hrv2 := hrv
          rw [hv2] at hr hrv2
          injection hrv2 with e1
          exact ⟨q, e1.symm, mem_range hr hj⟩
      have HTu : Hid (∀ (w : World) (j : Nat) (l : Mem), Up W w → S.rnd[j]? = some l → Calls Try.prog 44 #[.pointer (some ⟨yb, 0, none⟩), .int .i64 l.id] w fun e w' => e = .returned (.bool (S.busy l.id)) ∧ w' = w) := fun w j l u hj => turns_any (h.up u) (h.gd.rnd l (List.mem_of_getElem? hj))
      have hlen := h.len
      have HNx : Hid (S.next = S.rnd.findIdx (fun m => m.rd && !S.busy m.id)) := rfl
      have HMiss : Hid (S.next = S.rnd.length → S.begE (k : Int) = 134 ∧ S.begN (k : Int) = 0 ∧ S.begin (k : Int) = S) := fun hn => by
        have e1 : S.begE (k : Int) = 134 := by unfold Sd.begE; rw [hs]; show (if false = true then _ else if _ then _ else _) = _; rw [if_neg (by decide), if_neg (by omega)]
        exact ⟨e1, if_neg (by rw [e1]; decide), if_neg (by rw [e1]; decide)⟩
      have HHit : Hid (∀ (i : Nat) (x : Mem), S.next = i → S.rnd[i]? = some x → S.begE (k : Int) = 0 ∧ S.begN (k : Int) = x.id ∧ S.begin (k : Int) = ⟨S.rnd.eraseIdx i ++ [x], S.slo.set k ⟨x.id, true⟩⟩) := fun i x hn hx => by
        have hil := (List.getElem?_eq_some_iff.1 hx).1
        have e1 : S.begE (k : Int) = 0 := by unfold Sd.begE; rw [hs]; show (if false = true then _ else if _ then _ else _) = _; rw [if_neg (by decide), if_pos (by omega)]
        have hM : S.nextM = x := by
          unfold Sd.nextM
          rw [hn, List.getD_eq_getElem?_getD, hx]
          rfl
        refine ⟨e1, ?_, ?_⟩
        · unfold Sd.begN
          rw [if_pos e1, hM]
        · unfold Sd.begin
          rw [if_pos e1, hM, hn, Int.toNat_natCast]
      have HWo : Hid (∀ w i, Up W w → i < S.rnd.length → Calls Try.prog 43 #[.pointer (some ⟨yb, 0, none⟩), .int .i64 (i : Int)] w fun e w' => ∃ va vn vc, e = .returned (.slice va vn vc) ∧ NwM w w' (.slice va vn vc) (S.rnd.eraseIdx i)) := fun w i u hi => (without_any (h.up u) hi).mono fun e w' ⟨v, q1, q2⟩ => by
        obtain ⟨va, vn, vc, rfl⟩ := own_slice3 q2.own
        exact ⟨va, vn, vc, q1, q2⟩
      have HEn : Hid (∀ (i : Nat) (x : Mem) (wz : World) (v' : Value) (base : Nat), S.rnd[i]? = some x → Up W wz → W.heap.size ≤ base → wz.ownsRow base 85 2 v' ((S.rnd.eraseIdx i).length + 1) (memCells (S.rnd.eraseIdx i) ++ x.cells) → (wz.cell? ⟨yb, 0, none⟩ = some (.slice ra S.rnd.length rc) ∧ wz.frozen? ⟨yb, 0, none⟩ = false) ∧ ∀ w6, Up (wz.setCell ⟨yb, 0, none⟩ v') w6 → w6.cell? ⟨yb, 1, none⟩ = some (.slice (some ⟨g, 0, none⟩) S.slo.length c) ∧ w6.cell? ⟨g, k, none⟩ = some (.int .i64 (-1)) ∧ w6.frozen? ⟨g, k, none⟩ = false ∧ (RfAt K (w6.setCell ⟨g, k, none⟩ (.int .i64 x.id)) yb ⟨S.rnd.eraseIdx i ++ [x], S.slo.set k ⟨x.id, true⟩⟩ ∧ FK K W (w6.setCell ⟨g, k, none⟩ (.int .i64 x.id)))) := fun i x wz v' base hx u hb own => by
        have hil := (List.getElem?_eq_some_iff.1 hx).1
        have hu := h.up u
        have hl2 : (S.rnd.eraseIdx i ++ [x]).length = (S.rnd.eraseIdx i).length + 1 := by rw [List.length_append]; rfl
        have hl3 : (S.rnd.eraseIdx i).length + 1 ≤ 64 := by rw [List.length_eraseIdx_of_lt hil]; omega
        refine ⟨⟨by rw [← hrv]; exact hu.k0, hu.fz 0⟩, fun w6 u6 => ?_⟩
        have hr := h.newRow (w := wz) (lv' := v') (l := S.rnd.eraseIdx i ++ [x]) u.os u.output u.size (fun b hb _ => u.block b hb) (fun b e => Or.inr (Nat.le_trans hb (own.lt b e).1)) (by rw [hl2, memCells_snoc]; exact own_zero own) (by rw [hl2]; exact hl3) (fun m hm => by
          rcases List.mem_append.1 hm with hm | hm
          · exact Gd.erase h.gd.rnd m hm
          · simp at hm
            rw [hm]
            exact h.gd.rnd x (List.mem_of_getElem? hx))
        have h6 := hr.1.up u6
        have hk6 : ({ S with rnd := S.rnd.eraseIdx i ++ [x] } : Sd).slo[k]? = some ⟨ti, false⟩ := hk
        obtain ⟨g', c', e9, _, _, kc6, kz6⟩ := h6.slotAt hk6
        injection e9 with e9 _ _
        injection e9 with e9
        injection e9 with e9 _
        subst e9
        have hset := h6.setSlot (k := k) (y := ⟨x.id, true⟩) hkl (fun _ => h.gd.rnd x (List.mem_of_getElem? hx))
        exact ⟨h6.k1, kc6, kz6, ⟨_, _, hset.1⟩, (hr.2.trans (FK.ofUp u6)).trans hset.2⟩
      have hie : Try.prog.info? 85 = some Try.t85 := by kernel_rfl
      have HGY : Hid (g < W.heap.size ∧ yb < W.heap.size) := ⟨own_lt h.slo rfl, heap_at h.blk⟩
      clear h hs hk kc hgd hrv
      go_enter Try.func34, Try.ntmps34
      go_wp2_with fail
      go_loopw [6, 7, 8] (fun I _ _ wr => ∃ i : Nat, i ≤ S.rnd.length ∧ I = .int .i64 (i : Int) ∧ Hid (∀ (j : Nat) (y : Mem), j < i → S.rnd[j]? = some y → (y.rd && !S.busy y.id) = false) ∧ Hid (Up W wr)) (fun I _ _ _ => S.rnd.length - (intOf I).toNat)
      case atStart => exact ⟨0, by omega, rfl, fun j y hj => absurd hj (by omega), Up.refl W⟩
      case round =>
        obtain ⟨i, hi, rfl, HA, HU⟩ := hrel
        have k0 := HK.out wr HU.out
        by_cases hlt : i < S.rnd.length
        · have d5 : (i : Int) < (S.rnd.length : Int) := by omega
          obtain ⟨⟨xi, xr⟩, hx⟩ : ∃ x, S.rnd[i]? = some x := ⟨_, List.getElem?_eq_getElem hlt⟩
          obtain ⟨q, rfl, hr⟩ := HRg.out wr i _ HU.out hx
          have HRr : Hid (wr.rangeAt q (i * 2) [.int .i64 xi, .bool xr]) := hr
          have HX : Hid (S.rnd[i]? = some ⟨xi, xr⟩) := hx
          have HT2 : Hid (∀ w, Up W w → Calls Try.prog 44 #[.pointer (some ⟨yb, 0, none⟩), .int .i64 xi] w fun e w' => e = .returned (.bool (S.busy xi)) ∧ w' = w) := fun w u => HTu.out w i _ u hx
          clear hr hx
          go_wp2_with (refine wpList_load_mid rfl 85 _ rfl q (i * 2) rfl [.int .i64 xi, .bool xr] _ HRr.out Try.underlying85 rfl (by kernel_rfl) ?_)
          have uA : Up wr (wr.alloc (Obj.cells #[.int .i64 xi, .bool xr] 85)) := (Up.refl wr).alloc _
          have kA : (wr.alloc (Obj.cells #[.int .i64 xi, .bool xr] 85)).heap[wr.heap.size]? = some (.cells #[.int .i64 xi, .bool xr] 85 (0, 0)) := heap_alloc_new wr _
          have hzA : (wr.alloc (Obj.cells #[.int .i64 xi, .bool xr] 85)).heap.size = wr.heap.size + 1 := by simp
          have hzW := HU.out.size
          obtain ⟨pe, hpe⟩ : ∃ pe, pe = wr.heap.size := ⟨_, rfl⟩
          rw [← hpe] at kA hzA hzW ⊢
          clear hpe HRr k0
          generalize World.alloc wr _ = w3 at uA kA hzA ⊢
          have HU3 : Hid (Up W w3) := HU.out.trans uA
          have HNB : Hid (w3.rangeAt pe 0 [.int .i64 xi, .bool xr]) := range2 (heap_cell kA rfl) (heap_cell kA rfl)
          have ka0 := heap_cell kA (o := 0) (v := .int .i64 xi) rfl
          have ka1 := heap_cell kA (o := 1) (v := .bool xr) rfl
          have HPY : Hid (pe ≠ yb) := (by have := HGY.out.2; omega : pe ≠ yb)
          have HPG : Hid (pe ≠ g) := (by have := HGY.out.1; omega : pe ≠ g)
          have HW3 : Hid (W.heap.size ≤ w3.heap.size) := HU3.out.size
          clear uA kA hzA hzW
          refine (HT2.out _ HU3.out).mono ?_
          rintro e w' ⟨rfl, hw⟩
          obtain rfl := hw.symm
          clear hw HT2
          generalize hbz : S.busy xi = bz
          have HBz : Hid (S.busy xi = bz) := hbz
          clear hbz
          cases xr
          · have HV : Hid (((⟨xi, false⟩ : Mem).rd && !S.busy (⟨xi, false⟩ : Mem).id) = false) := rfl
            go_wp2_with fail
            refine ⟨⟨i + 1, by omega, by first | rfl | (simp; done), fun j y hj hy => ?_, HU3⟩, ?_⟩
            · by_cases e : j = i
              · subst e
                rw [HX.out] at hy
                injection hy with hy
                subst hy
                exact HV.out
              · exact HA.out j y (by omega) hy
            · simp [intOf]
              omega
          · cases bz
            · have HN : Hid (S.next = i) := by rw [HNx.out]; exact findIdx_hit (p := fun m : Mem => m.rd && !S.busy m.id) HX.out (by show (true && !S.busy xi) = true; rw [HBz.out]; rfl) HA.out
              have HF : Hid _ := HHit.out i _ HN.out HX.out
              have HD : Hid (∀ w, Up w3 w → Calls Try.prog 43 #[.pointer (some ⟨yb, 0, none⟩), .int .i64 (i : Int)] w fun e w' => ∃ va vn vc, e = .returned (.slice va vn vc) ∧ NwM w w' (.slice va vn vc) (S.rnd.eraseIdx i)) := fun w u => HWo.out w i (HU3.out.trans u) hlt
              have HE : Hid _ := fun wz v' base (u : Up w3 wz) => HEn.out i ⟨xi, true⟩ wz v' base HX.out (HU3.out.trans u)
              have hXl : (S.rnd.eraseIdx i).length ≤ 64 := Nat.le_trans (List.length_eraseIdx_le _ _) hlen
              clear HHit HEn HWo HTu HRg HMiss HA HX HK HN HBz HNx HU HU3
              generalize hXE : S.rnd.eraseIdx i = X at HD HE hXl
              have HXE : Hid (S.rnd.eraseIdx i = X) := hXE
              clear hXE
              go_wp2_with fail
              have HB : Hid (∀ w, Up w3 w → w.rangeAt pe 0 [.int .i64 xi, .bool true]) := fun w u j v hv => cell_up u (HNB.out j v hv)
              have HB2 : Hid (∀ w v, Up w3 w → (w.setCell ⟨yb, 0, none⟩ v).rangeAt pe 0 [.int .i64 xi, .bool true]) := fun w v u j x hx => by
                have h1 := HB.out w u j x hx
                rw [← h1]
                exact ((Fr.refl yb w).setCell).cell (World.block_lt_of_cell? _ _ h1) HPY.out
              refine wp_region_held_drew (S := fun w => w.rangeAt pe 0 [.int .i64 xi, .bool true]) (by kernel_rfl) ?_ (fun hHeld => ?_)
              · exact HB.out _ (Up.refl w3).drew
              have ud : Up w3 w3.drew := (Up.refl w3).drew
              generalize World.drew w3 = wd at ud hHeld ⊢
              refine wpAnyH_take (i := 0) (v := ?_) (by simp only [List.getElem?_toArray, List.getElem?_cons_zero]; rfl) (by kernel_rfl) (by kernel_rfl) (by kernel_rfl) (by intro _ _ _ h; exact h) (Or.inl ⟨by rfl, ?_⟩) (by assumption) ?_
              rotate_left
              · (intro w hSw; (try dsimp only at hSw); go_simp <;> with_reducible rfl)
              try simp only [Act.put, List.setIfInBounds_toArray, List.set_cons_zero, List.set_cons_succ]
              refine wpAnyH_take (i := 1) (v := ?_) (by simp only [List.getElem?_toArray, List.getElem?_cons_succ, List.getElem?_cons_zero]; rfl) (by kernel_rfl) (by kernel_rfl) (by kernel_rfl) (by intro _ _ _ h; exact h) (Or.inl ⟨by rfl, ?_⟩) (by assumption) ?_
              rotate_left
              · (intro w hSw; (try dsimp only at hSw); go_simp <;> with_reducible rfl)
              try simp only [Act.put, List.setIfInBounds_toArray, List.set_cons_zero, List.set_cons_succ]
              refine wpAnyH_take (i := 2) (v := ?_) (by simp only [List.getElem?_toArray, List.getElem?_cons_succ, List.getElem?_cons_zero]; rfl) (by kernel_rfl) (by kernel_rfl) (by kernel_rfl) (by intro _ _ _ h; exact h) (Or.inl ⟨by rfl, ?_⟩) (by assumption) ?_
              rotate_left
              · (intro w hSw; (try dsimp only at hSw); go_simp <;> with_reducible rfl)
              try simp only [Act.put, List.setIfInBounds_toArray, List.set_cons_zero, List.set_cons_succ]
              refine wpAnyH_take (i := 4) (v := .agg [.int .i64 xi, .bool true].toArray) (by simp only [List.getElem?_toArray, List.getElem?_cons_succ, List.getElem?_cons_zero]; rfl) (by kernel_rfl) (by kernel_rfl) (by kernel_rfl) (by intro _ _ _ h; exact h) (yieldsIf_load_mid (by rfl) 85 _ rfl pe 0 rfl [.int .i64 xi, .bool true] _ (fun w hw => hw) Try.underlying85 rfl (by kernel_rfl)) (by assumption) ?_
              simp only [Act.put, List.setIfInBounds_toArray, List.set_cons_zero, List.set_cons_succ]
              refine wpAnyH_ready (rs := [3, 5]) (by kernel_rfl) (by simp) ?_
              refine AllReadyH.cons (by simp only [List.getElem?_toArray, List.getElem?_cons_succ, List.getElem?_cons_zero]; rfl) (fun KK hK => ?_) (AllReadyH.cons (by simp only [List.getElem?_toArray, List.getElem?_cons_succ, List.getElem?_cons_zero]; rfl) (fun KK hK => ?_) AllReadyH.nil)
              · skip
                go_simp
                refine (HD.out _ ud).mono ?_
                rintro e we ⟨va1, vn1, vc1, rfl, hNw⟩
                have ue : Up w3 we := (ud).trans hNw.up
                refine hK.out _ _ (HB.out _ ue) (fun _ => ?_)
                clear hK KK
                try simp only [Act.put, List.setIfInBounds_toArray, List.set_cons_zero, List.set_cons_succ]
                refine wpAnyH_ready (rs := [5]) (by kernel_rfl) (by simp) ?_
                refine AllReadyH.cons (by simp only [List.getElem?_toArray, List.getElem?_cons_succ, List.getElem?_cons_zero]; rfl) (fun KK hK => ?_) AllReadyH.nil
                go_simp
                have ub : Up we (we.alloc (Obj.cells #[.int .i64 xi, .bool true] 85)) := (Up.refl we).alloc _
                have kn : (we.alloc (Obj.cells #[.int .i64 xi, .bool true] 85)).heap[we.heap.size]? = some (.cells #[.int .i64 xi, .bool true] 85 (0, 0)) := heap_alloc_new we _
                refine hK.out _ _ (HB.out _ (ue.trans ub)) (fun _ => ?_)
                clear hK KK
                try simp only [Act.put, List.setIfInBounds_toArray, List.set_cons_zero, List.set_cons_succ]
                have HSZ : W.heap.size ≤ wd.heap.size := by have h7 := HW3.out; have h8 := ud.size; omega
                refine wpAnyH_ready (rs := [6]) (by kernel_rfl) (by simp) ?_
                refine AllReadyH.cons (by simp only [List.getElem?_toArray, List.getElem?_cons_succ, List.getElem?_cons_zero]; rfl) (fun KK hK => ?_) AllReadyH.nil
                rw [if_pos (by rfl)]
                refine wp_append_at _ _ _ 80 rfl wd.heap.size 85 Try.t85 (.agg #[.int .i64 0, .bool false]) 2 16 Try.underlying80 hie rfl rfl rfl rfl (by decide) (.slice va1 vn1 vc1) X.length (memCells X) rfl (ownsRow_up hNw.own ub) ⟨we.heap.size, 0, none⟩ 1 1 [.int .i64 xi, .bool true] rfl rfl (by intro j u hu; rw [Addr.add_lit, Nat.zero_add, cell_of_row _ _ _ _ _ _ kn]; simpa using hu) (by intro u hu; simp at hu; rcases hu with rfl | rfl <;> rfl) (by unfold maxLen; omega) (by omega) (Nat.le_trans hNw.up.size ub.size) ?_
                intro v' wz ho hg hat
                obtain ⟨va', vn', vc', rfl⟩ := own_slice3 ho
                have uz : Up w3 wz := ⟨hg.os.trans (ue.trans ub).os, hg.output.trans (ue.trans ub).output, Nat.le_trans (ue.trans ub).size hg.size, fun b hb => (hg.block b (Nat.lt_of_lt_of_le hb (ue.trans ub).size) (fun e => by have h9 := (hNw.own.lt b e.symm).1; have h8 := (ud).size; omega)).trans ((ue.trans ub).block b hb)⟩
                have hz := HE.out wz _ wd.heap.size uz HSZ ho
                have H9 : Hid _ := hz.2
                have kz := hz.1.1
                have zz := hz.1.2
                refine hK.out _ _ (HB.out _ uz) (fun _ => ?_)
                clear hK KK
                try simp only [Act.put, List.setIfInBounds_toArray, List.set_cons_zero, List.set_cons_succ]
                clear hz ho hg hat
                refine wpAnyH_take (i := 7) (v := ?_) (by simp only [List.getElem?_toArray, List.getElem?_cons_succ, List.getElem?_cons_zero]; rfl) (by kernel_rfl) (by kernel_rfl) (by kernel_rfl) (by intro _ _ _ h; exact h) (Or.inl ⟨by rfl, ?_⟩) (by assumption) ?_
                rotate_left
                · (intro w hSw; (try dsimp only at hSw); go_simp <;> with_reducible rfl)
                try simp only [Act.put, List.setIfInBounds_toArray, List.set_cons_zero, List.set_cons_succ]
                refine wpAnyH_take (i := 8) (v := ?_) (by simp only [List.getElem?_toArray, List.getElem?_cons_succ, List.getElem?_cons_zero]; rfl) (by kernel_rfl) (by kernel_rfl) (by kernel_rfl) (by intro _ _ _ h; exact h) (Or.inl ⟨by rfl, ?_⟩) (by assumption) ?_
                rotate_left
                · (intro w hSw; (try dsimp only at hSw); go_simp <;> with_reducible rfl)
                try simp only [Act.put, List.setIfInBounds_toArray, List.set_cons_zero, List.set_cons_succ]
                refine wpAnyH_ready (rs := [9]) (by kernel_rfl) (by simp) ?_
                refine AllReadyH.cons (by simp only [List.getElem?_toArray, List.getElem?_cons_succ, List.getElem?_cons_zero]; rfl) (fun KK hK => ?_) AllReadyH.nil
                go_simp
                refine hK.out _ _ (HB2.out wz _ uz) (fun _ => ?_)
                clear hK KK
                try simp only [Act.put, List.setIfInBounds_toArray, List.set_cons_zero, List.set_cons_succ]
                refine wpAnyH_done (by kernel_rfl) ?_ _
                have HN9 : Hid _ := HB2.out wz (.slice va' vn' vc') uz
                clear uz kz zz HB HB2 HE HD hNw HSZ
                generalize World.setCell wz _ _ = w5 at H9 HN9 ⊢
                go_wp2_with fail
                refine wp_still2 8 (by kernel_rfl) (by decide +kernel) ?_
                intro w6 hw6
                have u6 : Up w5 w6 := by rw [hw6]; exact (Up.refl w5).drew
                have n0 : w6.cell? ⟨pe, 0, none⟩ = some (.int .i64 xi) := cell_up u6 (HN9.out 0 _ rfl)
                obtain ⟨q1, q2, q3, h0⟩ := H9.out w6 u6
                have H0 : Hid _ := h0
                have n1 : (w6.setCell ⟨g, k, none⟩ (.int .i64 xi)).cell? ⟨pe, 0, none⟩ = some (.int .i64 xi) := (((Fr.refl g w6).setCell).cell (World.block_lt_of_cell? _ _ n0) HPG.out).trans n0
                clear h0 H9 HN9 hw6 u6
                simp only [List.take_succ_cons, List.take_zero, List.drop_succ_cons, List.drop_zero]
                repeat (go_big_quiet_step (fail))
                refine wpQuiet_nil ?_
                have hpg := HPG.out
                go_wp2_with fail
                go_ret2
                exact ⟨by rw [HF.out.1, HF.out.2.1]; first | rfl | (simp; done), by rw [HF.out.2.2, HXE.out]; exact H0.out⟩
              · skip
                go_simp
                have ub : Up wd (wd.alloc (Obj.cells #[.int .i64 xi, .bool true] 85)) := (Up.refl wd).alloc _
                have kn : (wd.alloc (Obj.cells #[.int .i64 xi, .bool true] 85)).heap[wd.heap.size]? = some (.cells #[.int .i64 xi, .bool true] 85 (0, 0)) := heap_alloc_new wd _
                refine hK.out _ _ (HB.out _ (ud.trans ub)) (fun _ => ?_)
                clear hK KK
                try simp only [Act.put, List.setIfInBounds_toArray, List.set_cons_zero, List.set_cons_succ]
                have hlt9 : wd.heap.size < (wd.alloc (Obj.cells #[.int .i64 xi, .bool true] 85)).heap.size := by simp
                obtain ⟨nk, hnk⟩ : ∃ nk, nk = wd.heap.size := ⟨_, rfl⟩
                rw [← hnk] at kn hlt9 ⊢
                clear hnk
                generalize World.alloc wd _ = wf at ub kn hlt9 ⊢
                have uf : Up w3 wf := ud.trans ub
                refine wpAnyH_ready (rs := [3]) (by kernel_rfl) (by simp) ?_
                refine AllReadyH.cons (by simp only [List.getElem?_toArray, List.getElem?_cons_succ, List.getElem?_cons_zero]; rfl) (fun KK hK => ?_) AllReadyH.nil
                go_simp
                refine (HD.out _ uf).mono ?_
                rintro e we ⟨va1, vn1, vc1, rfl, hNw⟩
                have ue : Up w3 we := (uf).trans hNw.up
                refine hK.out _ _ (HB.out _ ue) (fun _ => ?_)
                clear hK KK
                try simp only [Act.put, List.setIfInBounds_toArray, List.set_cons_zero, List.set_cons_succ]
                replace kn : we.heap[nk]? = some (.cells #[.int .i64 xi, .bool true] 85 (0, 0)) := (hNw.up.block nk hlt9).trans kn
                have HSZ : W.heap.size ≤ wf.heap.size := by have h7 := HW3.out; have h8 := uf.size; omega
                refine wpAnyH_ready (rs := [6]) (by kernel_rfl) (by simp) ?_
                refine AllReadyH.cons (by simp only [List.getElem?_toArray, List.getElem?_cons_succ, List.getElem?_cons_zero]; rfl) (fun KK hK => ?_) AllReadyH.nil
                rw [if_pos (by rfl)]
                refine wp_append_at _ _ _ 80 rfl wf.heap.size 85 Try.t85 (.agg #[.int .i64 0, .bool false]) 2 16 Try.underlying80 hie rfl rfl rfl rfl (by decide) (.slice va1 vn1 vc1) X.length (memCells X) rfl hNw.own ⟨nk, 0, none⟩ 1 1 [.int .i64 xi, .bool true] rfl rfl (by intro j u hu; rw [Addr.add_lit, Nat.zero_add, cell_of_row _ _ _ _ _ _ kn]; simpa using hu) (by intro u hu; simp at hu; rcases hu with rfl | rfl <;> rfl) (by unfold maxLen; omega) (by omega) hNw.up.size ?_
                intro v' wz ho hg hat
                obtain ⟨va', vn', vc', rfl⟩ := own_slice3 ho
                have uz : Up w3 wz := ⟨hg.os.trans (ue).os, hg.output.trans (ue).output, Nat.le_trans (ue).size hg.size, fun b hb => (hg.block b (Nat.lt_of_lt_of_le hb (ue).size) (fun e => by have h9 := (hNw.own.lt b e.symm).1; have h8 := (uf).size; omega)).trans ((ue).block b hb)⟩
                have hz := HE.out wz _ wf.heap.size uz HSZ ho
                have H9 : Hid _ := hz.2
                have kz := hz.1.1
                have zz := hz.1.2
                refine hK.out _ _ (HB.out _ uz) (fun _ => ?_)
                clear hK KK
                try simp only [Act.put, List.setIfInBounds_toArray, List.set_cons_zero, List.set_cons_succ]
                clear hz ho hg hat
                refine wpAnyH_take (i := 7) (v := ?_) (by simp only [List.getElem?_toArray, List.getElem?_cons_succ, List.getElem?_cons_zero]; rfl) (by kernel_rfl) (by kernel_rfl) (by kernel_rfl) (by intro _ _ _ h; exact h) (Or.inl ⟨by rfl, ?_⟩) (by assumption) ?_
                rotate_left
                · (intro w hSw; (try dsimp only at hSw); go_simp <;> with_reducible rfl)
                try simp only [Act.put, List.setIfInBounds_toArray, List.set_cons_zero, List.set_cons_succ]
                refine wpAnyH_take (i := 8) (v := ?_) (by simp only [List.getElem?_toArray, List.getElem?_cons_succ, List.getElem?_cons_zero]; rfl) (by kernel_rfl) (by kernel_rfl) (by kernel_rfl) (by intro _ _ _ h; exact h) (Or.inl ⟨by rfl, ?_⟩) (by assumption) ?_
                rotate_left
                · (intro w hSw; (try dsimp only at hSw); go_simp <;> with_reducible rfl)
                try simp only [Act.put, List.setIfInBounds_toArray, List.set_cons_zero, List.set_cons_succ]
                refine wpAnyH_ready (rs := [9]) (by kernel_rfl) (by simp) ?_
                refine AllReadyH.cons (by simp only [List.getElem?_toArray, List.getElem?_cons_succ, List.getElem?_cons_zero]; rfl) (fun KK hK => ?_) AllReadyH.nil
                go_simp
                refine hK.out _ _ (HB2.out wz _ uz) (fun _ => ?_)
                clear hK KK
                try simp only [Act.put, List.setIfInBounds_toArray, List.set_cons_zero, List.set_cons_succ]
                refine wpAnyH_done (by kernel_rfl) ?_ _
                have HN9 : Hid _ := HB2.out wz (.slice va' vn' vc') uz
                clear uz kz zz HB HB2 HE HD hNw HSZ
                generalize World.setCell wz _ _ = w5 at H9 HN9 ⊢
                go_wp2_with fail
                refine wp_still2 8 (by kernel_rfl) (by decide +kernel) ?_
                intro w6 hw6
                have u6 : Up w5 w6 := by rw [hw6]; exact (Up.refl w5).drew
                have n0 : w6.cell? ⟨pe, 0, none⟩ = some (.int .i64 xi) := cell_up u6 (HN9.out 0 _ rfl)
                obtain ⟨q1, q2, q3, h0⟩ := H9.out w6 u6
                have H0 : Hid _ := h0
                have n1 : (w6.setCell ⟨g, k, none⟩ (.int .i64 xi)).cell? ⟨pe, 0, none⟩ = some (.int .i64 xi) := (((Fr.refl g w6).setCell).cell (World.block_lt_of_cell? _ _ n0) HPG.out).trans n0
                clear h0 H9 HN9 hw6 u6
                simp only [List.take_succ_cons, List.take_zero, List.drop_succ_cons, List.drop_zero]
                repeat (go_big_quiet_step (fail))
                refine wpQuiet_nil ?_
                have hpg := HPG.out
                go_wp2_with fail
                go_ret2
                exact ⟨by rw [HF.out.1, HF.out.2.1]; first | rfl | (simp; done), by rw [HF.out.2.2, HXE.out]; exact H0.out⟩
            · have HV : Hid (((⟨xi, true⟩ : Mem).rd && !S.busy (⟨xi, true⟩ : Mem).id) = false) := by show (true && !S.busy xi) = false; rw [HBz.out]; rfl
              go_wp2_with fail
              refine ⟨⟨i + 1, by omega, by first | rfl | (simp; done), fun j y hj hy => ?_, HU3⟩, ?_⟩
              · by_cases e : j = i
                · subst e
                  rw [HX.out] at hy
                  injection hy with hy
                  subst hy
                  exact HV.out
                · exact HA.out j y (by omega) hy
              · simp [intOf]
                omega
        · have d5 : ¬ (i : Int) < (S.rnd.length : Int) := by omega
          have HF : Hid _ := HMiss.out (by rw [HNx.out]; exact findIdx_none (p := fun m : Mem => m.rd && !S.busy m.id) fun j y hj => HA.out j y (by have := (List.getElem?_eq_some_iff.1 hj).1; omega) hj)
          clear HHit HEn HWo HTu HRg
          go_wp2_with fail
          go_ret2
          exact ⟨by rw [HF.out.1, HF.out.2.1]; first | rfl | (simp; done), by rw [HF.out.2.2]; exact HR.out _ HU.out⟩
end Go.Proofs.Ytakciepfckdpfaa
