/- Sched: Begin. -/
import Derived.Test.YtakciepfckdpfaaScJ
namespace Go.Proofs.Ytakciepfckdpfaa
open Go.RowKit
set_option linter.unusedVariables false
set_option linter.unusedSimpArgs false
theorem cell_up {w w' : World} (u : Up w w') {a : Addr} {v : Value} (h : w.cell? a = some v) : w'.cell? a = some v := by
  have hl := World.block_lt_of_cell? _ _ h
  rw [← h]
  unfold World.cell?
  rw [u.block _ hl]
variable {w w' W : World} {K K' : Nat → Prop} {sb sg sc : Nat} {rv rv' : Value} {S S' : Sd}
set_option maxRecDepth 100000 in
set_option maxHeartbeats 2000000 in
theorem begin_any (h : SdAt K W sb S) {s : Int} :
    Calls Try.prog 11 #[.pointer (some ⟨sb, 0, none⟩), .int .i64 s] W fun e w' => e = .returned (.tuple #[.int .i64 (S.begN s), .int .i64 (S.begE s)]) ∧ SdAt K w' sb (S.begin s) ∧ FK K W w' := by
  obtain ⟨sg, sc, rv, h⟩ := h
  have HH : Hid (∀ w, w = W → Calls Try.prog 24 #[.pointer (some ⟨sb, 0, none⟩), .int .i64 s] w fun e w' => e = .returned (.bool (decide (0 ≤ s ∧ s < (S.slo.length : Int)))) ∧ w' = w) := fun w e => by subst e; exact has_any h
  cases hs : S.slot s with
  | none =>
    have e1 : S.begE s = 131 := by unfold Sd.begE; rw [hs]
    have e2 : S.begN s = 0 := if_neg (by rw [e1]; decide)
    have e3 : S.begin s = S := if_neg (by rw [e1]; decide)
    rw [e1, e2, e3]
    rw [decide_eq_false (Sd.slot_none hs)] at HH
    have HR : Hid _ := h.refl
    clear h e1 e2 e3 hs
    go_enter Try.func11, Try.ntmps11
    go_wp2_with fail
    refine (HH.out _ rfl).mono ?_
    rintro e w1 ⟨rfl, hw⟩
    obtain rfl := hw.symm
    go_wp2_with fail
    go_ret2
    exact ⟨by first | rfl | (simp; done), HR.out⟩
  | some x =>
    obtain ⟨h0, k, rfl, hk⟩ := Sd.slot_some hs
    have hkl := (List.getElem?_eq_some_iff.1 hk).1
    rw [decide_eq_true (show 0 ≤ (k : Int) ∧ (k : Int) < (S.slo.length : Int) by omega)] at HH
    obtain ⟨ti, tr⟩ := x
    obtain ⟨c1, c2⟩ := h.scl
    have k1 := h.k1
    have k3 : W.cell? ⟨sg, k * 2 + 1, none⟩ = some (.bool tr) := mem_range h.slo hk 1 _ rfl
    have d1 : (k : Int) < (S.slo.length : Int) := by omega
    cases tr with
    | true =>
      have e1 : S.begE (k : Int) = 131 := by unfold Sd.begE; rw [hs]; rfl
      have e2 : S.begN (k : Int) = 0 := if_neg (by rw [e1]; decide)
      have e3 : S.begin (k : Int) = S := if_neg (by rw [e1]; decide)
      rw [e1, e2, e3]
      have HR : Hid _ := h.refl
      clear h e1 e2 e3 hs hk
      generalize S.slo.length = n at *
      go_enter Try.func11, Try.ntmps11
      go_wp2_with fail
      refine (HH.out _ rfl).mono ?_
      rintro e w1 ⟨rfl, hw⟩
      obtain rfl := hw.symm
      go_wp2_with fail
      go_ret2
      exact ⟨by first | rfl | (simp; done), HR.out⟩
    | false =>
      have HW : Hid (∀ w, w = W → Calls Try.prog 26 #[.pointer (some ⟨sb, 0, none⟩)] w fun e w' => ∃ q, e = .returned (.func (.func 39) #[] #[.pointer (some ⟨q, 0, none⟩)]) ∧ w'.cell? ⟨q, 0, none⟩ = some (.pointer (some ⟨sb, 0, none⟩)) ∧ Up W w') := fun w e => by subst e; exact waiting_any
      have HF : Hid (∀ w q, Up W w → w.cell? ⟨q, 0, none⟩ = some (.pointer (some ⟨sb, 0, none⟩)) → Calls Try.prog 25 #[.pointer (some ⟨sb, 0, none⟩), .func (.func 39) #[] #[.pointer (some ⟨q, 0, none⟩)]] w fun e w' => e = .returned (.int .i64 (idxI S.next S.rnd.length)) ∧ Up W w') := fun w q u hq => h.next u hq
      by_cases hn : S.next < S.rnd.length
      · have e1 : S.begE (k : Int) = 0 := by unfold Sd.begE; rw [hs]; show (if false = true then _ else if _ then _ else _) = _; rw [if_neg (by decide), if_pos hn]
        have e2 : S.begN (k : Int) = S.nextM.id := if_pos e1
        have e3 : S.begin (k : Int) = ⟨S.rnd.eraseIdx S.next ++ [S.nextM], S.slo.set k ⟨S.nextM.id, true⟩⟩ := by
          unfold Sd.begin
          rw [if_pos e1, Int.toNat_natCast]
        have hx : S.rnd[S.next]? = some S.nextM := by
          unfold Sd.nextM
          rw [List.getD_eq_getElem?_getD, List.getElem?_eq_getElem hn]
          rfl
        rw [e1, e2, e3]
        generalize S.nextM = x at hx e1 e2 e3 ⊢
        obtain ⟨xi, xr⟩ := x
        obtain ⟨g, cap, hrv⟩ : ∃ g cap, rv = .slice (some ⟨g, 0, none⟩) S.rnd.length cap := by
          rcases own_cases h.row with ⟨_, hn, _⟩ | ⟨g, cap, hv, _⟩
          · omega
          · exact ⟨g, cap, hv⟩
        subst hrv
        obtain ⟨b1, b2⟩ : S.rnd.length ≤ cap ∧ cap ≤ 9223372036854775807 := by
          obtain ⟨cur, _, _, c1, c2, _⟩ := own_open h.row
          unfold maxLen at c2
          exact ⟨c1, by omega⟩
        rw [idxI_lt hn] at HF
        obtain ⟨m, hm⟩ : ∃ m, S.rnd.length = m + 1 := ⟨S.rnd.length - 1, by omega⟩
        have hlen := h.len
        have hX : (S.rnd.eraseIdx S.next).length = m := by rw [List.length_eraseIdx_of_lt hn]; omega
        have hgl : g < W.heap.size := own_lt h.row rfl
        have HK0 : Hid (∀ w, Up W w → w.cell? ⟨sb, 0, none⟩ = some (.slice (some ⟨g, 0, none⟩) (m + 1) cap) ∧ w.rangeAt g (S.next * 2) [.int .i64 xi, .bool xr]) := fun w u => ⟨by rw [← hm]; exact (h.up u).k0, mem_range (h.up u).row hx⟩
        have HD0 : Hid (∀ w, Up W w → Calls Try.prog 27 #[.slice (some ⟨g, 0, none⟩) (m + 1) cap, .int .i64 (S.next : Int), .int .i64 ((S.next : Int) + 1)] w fun e w' => e = .returned (.slice (some ⟨g, 0, none⟩) m cap) ∧ w'.ownsRow 0 69 2 (.slice (some ⟨g, 0, none⟩) m cap) m (memCells (S.rnd.eraseIdx S.next)) ∧ Fr g w w') := fun w u => by
          have hr := (h.up u).row
          rw [hm] at hr
          refine (delM_any hr (show S.next ≤ m by omega) (memCells_one _)).mono fun e w' ⟨q1, q2, q3⟩ => ⟨q1, ?_, q3⟩
          rw [← memCells_erase]
          exact q2
        have HE0 : Hid (∀ w3 wz v', Up W w3 → Fr g w3 wz → wz.ownsRow 0 69 2 v' (m + 1) (memCells (S.rnd.eraseIdx S.next) ++ [.int .i64 xi, .bool xr]) → (v'.ownBlock = some g ∨ ∃ c, v'.ownBlock = some c ∧ W.heap.size ≤ c) → (wz.cell? ⟨sb, 0, none⟩ = some (.slice (some ⟨g, 0, none⟩) (m + 1) cap) ∧ wz.frozen? ⟨sb, 0, none⟩ = false) ∧ ∀ w6, Up (wz.setCell ⟨sb, 0, none⟩ v') w6 → w6.cell? ⟨sb, 1, none⟩ = some (.slice (some ⟨sg, 0, none⟩) S.slo.length sc) ∧ w6.there sg (k * 2) 2 ∧ (SdAt K (w6.setCells sg (k * 2) [.int .i64 xi, .bool true]) sb ⟨S.rnd.eraseIdx S.next ++ [⟨xi, xr⟩], S.slo.set k ⟨xi, true⟩⟩ ∧ FK K W (w6.setCells sg (k * 2) [.int .i64 xi, .bool true]))) := fun w3 wz v' u f own ho => by
          have l1 := heap_at h.blk
          have hS : wz.heap[sb]? = _ := (f.block sb (Nat.lt_of_lt_of_le l1 u.size) (fun e => h.a2 (by rw [e]; rfl))).trans ((u.block sb l1).trans h.blk)
          refine ⟨⟨by rw [← hm]; exact heap_cell hS rfl, heap_fz hS⟩, fun w6 u6 => ?_⟩
          have hl2 : (S.rnd.eraseIdx S.next ++ [(⟨xi, xr⟩ : Mem)]).length = m + 1 := by rw [List.length_append, hX]; rfl
          obtain ⟨⟨sg', sc', rv2, hr⟩, hfk⟩ := h.newRow (g1 := none) (w := wz) (rv' := v') (l := S.rnd.eraseIdx S.next ++ [⟨xi, xr⟩]) (f.os.trans u.os) (f.output.trans u.output) (Nat.le_trans u.size f.size) (fun b hb hn => (f.block b (Nat.lt_of_lt_of_le hb u.size) (fun e => hn (by rw [e]; rfl))).trans (u.block b hb))
            (fun b e => by
              rcases ho with e1 | ⟨c, e1, e2⟩
              · exact Or.inl (by rw [e1] at e; exact e)
              · rw [e1] at e
                injection e with e
                exact Or.inr (by omega))
            (by rw [hl2, memCells_app]; exact own) (by rw [hl2]; omega)
          have hbk := hr.blk
          have hbk2 := heap_setCell_same wz sb 0 _ _ v' hS
          rw [hbk2] at hbk
          have hcs := congrArg (fun o => match o with | some (Obj.cells cs _ _) => cs[1]? | _ => none) hbk
          simp at hcs
          obtain ⟨rfl, rfl⟩ := hcs
          have h6 := hr.up u6
          have hset := h6.setSlot (k := k) (y := ⟨xi, true⟩) hkl
          exact ⟨h6.k1, hset.1, ⟨_, _, _, hset.2.1⟩, (hfk.trans (FK.ofUp u6)).trans hset.2.2⟩
        have hie : Try.prog.info? 69 = some Try.t69 := by kernel_rfl
        have d2 : ¬ (S.next : Int) < 0 := by omega
        have d3 : (S.next : Int) < ((m + 1 : Nat) : Int) := by omega
        have d4 : (S.next : Int) < (m : Int) + 1 := by omega
        have hwr : IntKind.i64.wrap ((S.next : Int) + 1) = (S.next : Int) + 1 := by rw [IntKind.wrap_i64]; omega
        have hA : Hid (sb ≠ g ∧ g < W.heap.size ∧ sb < W.heap.size ∧ sg < W.heap.size) := ⟨fun e => h.a2 (by rw [e]; rfl), hgl, heap_at h.blk, h.sglt⟩
        rw [hm] at b1 hlen
        clear h e1 e2 e3 hs hk hx hn hX hgl
        generalize S.rnd.eraseIdx S.next = X at *
        generalize S.next = i at *
        clear hm
        generalize S.slo.length = n at *
        go_enter Try.func11, Try.ntmps11
        go_wp2_with fail
        refine (HH.out _ rfl).mono ?_
        rintro e w1 ⟨rfl, hw⟩
        obtain rfl := hw.symm
        go_wp2_with fail
        refine (HW.out _ rfl).mono ?_
        rintro e w1 ⟨q, rfl, hq, u1⟩
        have H1 : Hid _ := HF.out w1 q u1 hq
        clear hq u1 HW HF k1 k3
        go_wp2_with fail
        refine Calls.mono H1.out ?_
        rintro e w2 ⟨rfl, u2⟩
        have HU2 : Hid (Up W w2) := u2
        obtain ⟨kc2, hr2⟩ := HK0.out w2 u2
        have HR2 : Hid _ := hr2
        clear u2 H1 hr2
        go_wp2_with (first | refine wpList_load_mid rfl 69 _ rfl g (i * 2) rfl [.int .i64 xi, .bool xr] _ HR2.out Try.underlying69 rfl (by kernel_rfl) ?_ | fail)
        have uA : Up W (w2.alloc (Obj.cells #[.int .i64 xi, .bool xr] 69)) := HU2.out.alloc _
        have kA : (w2.alloc (Obj.cells #[.int .i64 xi, .bool xr] 69)).heap[w2.heap.size]? = some (.cells #[.int .i64 xi, .bool xr] 69 (0, 0)) := heap_alloc_new w2 _
        have hzA : (w2.alloc (Obj.cells #[.int .i64 xi, .bool xr] 69)).heap.size = w2.heap.size + 1 := by simp
        have hz2 := HU2.out.size
        have hA2 := hA.out
        obtain ⟨nb, hnb⟩ : ∃ nb, nb = w2.heap.size := ⟨_, rfl⟩
        rw [← hnb] at kA hzA hz2 ⊢
        clear HU2 HR2 kc2 hnb
        generalize World.alloc w2 _ = w3 at uA kA hzA ⊢
        have HG : Hid (g < W.heap.size ∧ W.heap.size ≤ w3.heap.size ∧ nb ≠ sb ∧ nb < w3.heap.size ∧ nb ≠ g) := ⟨hA2.2.1, by omega, by omega, by omega, by omega⟩
        have HSG : Hid (nb ≠ sg) := (by omega : nb ≠ sg)
        have HNB : Hid (w3.rangeAt nb 0 [.int .i64 xi, .bool xr]) := range2 (heap_cell kA rfl) (heap_cell kA rfl)
        have HK : Hid (∀ w, Fr g w3 w → w.cell? ⟨sb, 0, none⟩ = some (.slice (some ⟨g, 0, none⟩) (m + 1) cap)) := fun w f => (f.cell (by omega) hA2.1).trans (HK0.out w3 uA).1
        have HD : Hid (∀ w, Up w3 w → Calls Try.prog 27 #[.slice (some ⟨g, 0, none⟩) (m + 1) cap, .int .i64 (i : Int), .int .i64 ((i : Int) + 1)] w fun e w' => e = .returned (.slice (some ⟨g, 0, none⟩) m cap) ∧ w'.ownsRow 0 69 2 (.slice (some ⟨g, 0, none⟩) m cap) m (memCells X) ∧ Fr g w w') := fun w u => HD0.out w (uA.trans u)
        have HE : Hid (∀ wz v', Fr g w3 wz → wz.ownsRow 0 69 2 v' (m + 1) (memCells X ++ [.int .i64 xi, .bool xr]) → (v'.ownBlock = some g ∨ ∃ c, v'.ownBlock = some c ∧ W.heap.size ≤ c) → (wz.cell? ⟨sb, 0, none⟩ = some (.slice (some ⟨g, 0, none⟩) (m + 1) cap) ∧ wz.frozen? ⟨sb, 0, none⟩ = false) ∧ ∀ w6, Up (wz.setCell ⟨sb, 0, none⟩ v') w6 → w6.cell? ⟨sb, 1, none⟩ = some (.slice (some ⟨sg, 0, none⟩) n sc) ∧ w6.there sg (k * 2) 2 ∧ (SdAt K (w6.setCells sg (k * 2) [.int .i64 xi, .bool true]) sb ⟨X ++ [⟨xi, xr⟩], S.slo.set k ⟨xi, true⟩⟩ ∧ FK K W (w6.setCells sg (k * 2) [.int .i64 xi, .bool true]))) := fun wz v' f own ho => HE0.out w3 wz v' uA f own ho
        clear HK0 HD0 HE0 hA hA2 kA hzA hz2 uA
        have HB2 : Hid (∀ w v, Fr g w3 w → (w.setCell ⟨sb, 0, none⟩ v).rangeAt nb 0 [.int .i64 xi, .bool xr]) := fun w v f => by
          have h1 : (w.setCell ⟨sb, 0, none⟩ v).heap[nb]? = w3.heap[nb]? := (((Fr.refl sb w).setCell).block nb (Nat.lt_of_lt_of_le HG.out.2.2.2.1 f.size) HG.out.2.2.1).trans (f.block nb HG.out.2.2.2.1 HG.out.2.2.2.2)
          intro j u hu
          have := HNB.out j u hu
          rw [← this]
          unfold World.cell?
          rw [show (World.setCell w ⟨sb, 0, none⟩ v).heap[(⟨nb, 0 + j, none⟩ : Addr).block]? = w3.heap[(⟨nb, 0 + j, none⟩ : Addr).block]? from h1]
        have HB : Hid (∀ w, Fr g w3 w → w.rangeAt nb 0 [.int .i64 xi, .bool xr]) := fun w f => by
          intro j u hu
          have := HNB.out j u hu
          rw [← this]
          exact f.cell HG.out.2.2.2.1 HG.out.2.2.2.2
        refine wp_region_held_drew (S := fun w => w.rangeAt nb 0 [.int .i64 xi, .bool xr]) (by kernel_rfl) ?_ (fun hHeld => ?_)
        · exact HB.out _ (Fr.ofUp (Up.refl w3).drew)
        have ud : Up w3 w3.drew := (Up.refl w3).drew
        generalize World.drew w3 = wd at ud hHeld ⊢
        have fd : Fr g w3 wd := Fr.ofUp ud
        refine wpAnyH_take (i := 0) (v := ?_) (by simp only [List.getElem?_toArray, List.getElem?_cons_zero]; rfl) (by kernel_rfl) (by kernel_rfl) (by kernel_rfl) (by intro _ _ _ h; exact h) (Or.inl ⟨by rfl, ?_⟩) (by assumption) ?_
        rotate_left
        · (intro w hSw; (try dsimp only at hSw); go_simp <;> with_reducible rfl)
        try simp only [Act.put, List.setIfInBounds_toArray, List.set_cons_zero, List.set_cons_succ]
        refine wpAnyH_take (i := 1) (v := ?_) (by simp only [List.getElem?_toArray, List.getElem?_cons_succ, List.getElem?_cons_zero]; rfl) (by kernel_rfl) (by kernel_rfl) (by kernel_rfl) (by intro _ _ _ h; exact h) (Or.inl ⟨by rfl, ?_⟩) (by assumption) ?_
        rotate_left
        · (intro w hSw; (try dsimp only at hSw); go_simp <;> with_reducible rfl)
        try simp only [Act.put, List.setIfInBounds_toArray, List.set_cons_zero, List.set_cons_succ]
        refine wpAnyH_take (i := 2) (v := ?_) (by simp only [List.getElem?_toArray, List.getElem?_cons_succ, List.getElem?_cons_zero]; rfl) (by kernel_rfl) (by kernel_rfl) (by kernel_rfl) (by intro _ _ _ h; exact h) (Or.inl ⟨by rfl, ?_⟩) (by assumption) ?_
        rotate_left
        · (intro w hSw; (try dsimp only at hSw); go_simp <;> with_reducible rfl)
        try simp only [Act.put, List.setIfInBounds_toArray, List.set_cons_zero, List.set_cons_succ]
        refine wpAnyH_take (i := 3) (v := ?_) (by simp only [List.getElem?_toArray, List.getElem?_cons_succ, List.getElem?_cons_zero]; rfl) (by kernel_rfl) (by kernel_rfl) (by kernel_rfl) (by intro _ _ _ h; exact h) (Or.inl ⟨by rfl, ?_⟩) (by assumption) ?_
        rotate_left
        · (intro w hSw; (try dsimp only at hSw); go_simp <;> with_reducible rfl)
        try simp only [Act.put, List.setIfInBounds_toArray, List.set_cons_zero, List.set_cons_succ]
        refine wpAnyH_take (i := 5) (v := ?_) (by simp only [List.getElem?_toArray, List.getElem?_cons_succ, List.getElem?_cons_zero]; rfl) (by kernel_rfl) (by kernel_rfl) (by kernel_rfl) (by intro _ _ _ h; exact h) (Or.inl ⟨by rfl, ?_⟩) (by assumption) ?_
        rotate_left
        · (intro w hSw; (try dsimp only at hSw); go_simp <;> with_reducible rfl)
        try simp only [Act.put, List.setIfInBounds_toArray, List.set_cons_zero, List.set_cons_succ]
        refine wpAnyH_take (i := 6) (v := ?_) (by simp only [List.getElem?_toArray, List.getElem?_cons_succ, List.getElem?_cons_zero]; rfl) (by kernel_rfl) (by kernel_rfl) (by kernel_rfl) (by intro _ _ _ h; exact h) (Or.inl ⟨by rfl, ?_⟩) (by assumption) ?_
        rotate_left
        · (intro w hSw; (try dsimp only at hSw); go_simp <;> with_reducible rfl)
        try simp only [Act.put, List.setIfInBounds_toArray, List.set_cons_zero, List.set_cons_succ]
        refine wpAnyH_take (i := 7) (v := ?_) (by simp only [List.getElem?_toArray, List.getElem?_cons_succ, List.getElem?_cons_zero]; rfl) (by kernel_rfl) (by kernel_rfl) (by kernel_rfl) (by intro _ _ _ h; exact h) (Or.inl ⟨by rfl, ?_⟩) (by assumption) ?_
        rotate_left
        · (intro w hSw; (try dsimp only at hSw); go_simp <;> with_reducible rfl)
        try simp only [Act.put, List.setIfInBounds_toArray, List.set_cons_zero, List.set_cons_succ]
        refine wpAnyH_take (i := 9) (v := .agg [.int .i64 xi, .bool xr].toArray) (by simp only [List.getElem?_toArray, List.getElem?_cons_succ, List.getElem?_cons_zero]; rfl) (by kernel_rfl) (by kernel_rfl) (by kernel_rfl) (by intro _ _ _ h; exact h) (yieldsIf_load_mid (by rfl) 69 _ rfl nb 0 rfl [.int .i64 xi, .bool xr] _ (fun w hw => hw) Try.underlying69 rfl (by kernel_rfl)) (by assumption) ?_
        simp only [Act.put, List.setIfInBounds_toArray, List.set_cons_zero, List.set_cons_succ]
        refine wpAnyH_ready (rs := [4, 10]) (by kernel_rfl) (by simp) ?_
        refine AllReadyH.cons (by simp only [List.getElem?_toArray, List.getElem?_cons_succ, List.getElem?_cons_zero]; rfl) (fun KK hK => ?_) (AllReadyH.cons (by simp only [List.getElem?_toArray, List.getElem?_cons_succ, List.getElem?_cons_zero]; rfl) (fun KK hK => ?_) AllReadyH.nil)
        · skip
          have kc := HK.out wd fd
          go_simp
          refine hK.out _ _ (HB.out wd fd) (fun _ => ?_)
          clear hK KK
          try simp only [Act.put, List.setIfInBounds_toArray, List.set_cons_zero, List.set_cons_succ]
          clear kc
          refine wpAnyH_ready (rs := [8, 10]) (by kernel_rfl) (by simp) ?_
          refine AllReadyH.cons (by simp only [List.getElem?_toArray, List.getElem?_cons_succ, List.getElem?_cons_zero]; rfl) (fun KK hK => ?_) (AllReadyH.cons (by simp only [List.getElem?_toArray, List.getElem?_cons_succ, List.getElem?_cons_zero]; rfl) (fun KK hK => ?_) AllReadyH.nil)
          · skip
            go_simp
            refine (HD.out wd ud).mono ?_
            rintro e we ⟨rfl, own, fr⟩
            have f8 : Fr g w3 we := (fd).trans fr
            refine hK.out _ _ (HB.out we f8) (fun _ => ?_)
            clear hK KK
            try simp only [Act.put, List.setIfInBounds_toArray, List.set_cons_zero, List.set_cons_succ]
            refine wpAnyH_ready (rs := [10]) (by kernel_rfl) (by simp) ?_
            refine AllReadyH.cons (by simp only [List.getElem?_toArray, List.getElem?_cons_succ, List.getElem?_cons_zero]; rfl) (fun KK hK => ?_) AllReadyH.nil
            go_simp
            have ub : Up we (we.alloc (Obj.cells #[.int .i64 xi, .bool xr] 69)) := (Up.refl we).alloc _
            have kn : (we.alloc (Obj.cells #[.int .i64 xi, .bool xr] 69)).heap[we.heap.size]? = some (.cells #[.int .i64 xi, .bool xr] 69 (0, 0)) := heap_alloc_new we _
            refine hK.out _ _ (HB.out _ (f8.trans (Fr.ofUp ub))) (fun _ => ?_)
            clear hK KK
            try simp only [Act.put, List.setIfInBounds_toArray, List.set_cons_zero, List.set_cons_succ]
            refine wpAnyH_ready (rs := [11]) (by kernel_rfl) (by simp) ?_
            refine AllReadyH.cons (by simp only [List.getElem?_toArray, List.getElem?_cons_succ, List.getElem?_cons_zero]; rfl) (fun KK hK => ?_) AllReadyH.nil
            rw [if_pos (by rfl)]
            refine wp_append_at _ _ _ 61 rfl 0 69 Try.t69 (.agg #[.int .i64 0, .bool false]) 2 16 Try.underlying61 hie rfl rfl rfl rfl (by decide) (.slice (some ⟨g, 0, none⟩) m cap) m (memCells X) rfl (ownsRow_up own ub) ⟨we.heap.size, 0, none⟩ 1 1 [.int .i64 xi, .bool xr] rfl rfl (by intro j u hu; rw [Addr.add_lit, Nat.zero_add, cell_of_row _ _ _ _ _ _ kn]; simpa using hu) (by intro u hu; simp at hu; rcases hu with rfl | rfl <;> rfl) (by unfold maxLen; omega) (by omega) (Nat.zero_le _) ?_
            intro v' wz ho hg hat
            obtain ⟨va', vn', vc', rfl⟩ := own_slice3 ho
            have fz : Fr g w3 wz := (f8.trans (Fr.ofUp ub)).trans ⟨hg.os, hg.output, hg.size, fun b hb hn => hg.block b hb (fun e => hn (Option.some.inj e))⟩
            have hz := HE.out wz _ fz ho (by rcases hat with e | e; exact Or.inl e; exact Or.inr ⟨_, e, Nat.le_trans HG.out.2.1 (Nat.le_trans (f8.trans (Fr.ofUp ub)).size (Nat.le_refl _))⟩)
            have H9 : Hid _ := hz.2
            have kz := hz.1.1
            have zz := hz.1.2
            refine hK.out _ _ (HB.out wz fz) (fun _ => ?_)
            clear hK KK
            try simp only [Act.put, List.setIfInBounds_toArray, List.set_cons_zero, List.set_cons_succ]
            clear hz ho hg hat
            refine wpAnyH_take (i := 12) (v := ?_) (by simp only [List.getElem?_toArray, List.getElem?_cons_succ, List.getElem?_cons_zero]; rfl) (by kernel_rfl) (by kernel_rfl) (by kernel_rfl) (by intro _ _ _ h; exact h) (Or.inl ⟨by rfl, ?_⟩) (by assumption) ?_
            rotate_left
            · (intro w hSw; (try dsimp only at hSw); go_simp <;> with_reducible rfl)
            try simp only [Act.put, List.setIfInBounds_toArray, List.set_cons_zero, List.set_cons_succ]
            refine wpAnyH_take (i := 13) (v := ?_) (by simp only [List.getElem?_toArray, List.getElem?_cons_succ, List.getElem?_cons_zero]; rfl) (by kernel_rfl) (by kernel_rfl) (by kernel_rfl) (by intro _ _ _ h; exact h) (Or.inl ⟨by rfl, ?_⟩) (by assumption) ?_
            rotate_left
            · (intro w hSw; (try dsimp only at hSw); go_simp <;> with_reducible rfl)
            try simp only [Act.put, List.setIfInBounds_toArray, List.set_cons_zero, List.set_cons_succ]
            refine wpAnyH_ready (rs := [14]) (by kernel_rfl) (by simp) ?_
            refine AllReadyH.cons (by simp only [List.getElem?_toArray, List.getElem?_cons_succ, List.getElem?_cons_zero]; rfl) (fun KK hK => ?_) AllReadyH.nil
            go_simp
            refine hK.out _ _ (HB2.out wz _ fz) (fun _ => ?_)
            clear hK KK
            try simp only [Act.put, List.setIfInBounds_toArray, List.set_cons_zero, List.set_cons_succ]
            refine wpAnyH_done (by kernel_rfl) ?_ _
            have HN9 : Hid _ := HB2.out wz (.slice va' vn' vc') fz
            clear fz kz zz HB HB2 HE HD HK
            generalize World.setCell wz _ _ = w5 at H9 HN9 ⊢
            go_wp2_with fail
            refine wp_still2 9 (by kernel_rfl) (by decide +kernel) ?_
            intro w6 hw6
            have u6 : Up w5 w6 := by rw [hw6]; exact (Up.refl w5).drew
            have n0 : w6.cell? ⟨nb, 0, none⟩ = some (.int .i64 xi) := cell_up u6 (HN9.out 0 _ rfl)
            obtain ⟨q1, HT0, h0⟩ := H9.out w6 u6
            have HT : Hid (w6.there sg (k * 2) 2) := HT0
            have H0 : Hid _ := h0
            have HN : Hid ((w6.setCells sg (k * 2) [.int .i64 xi, .bool true]).cell? ⟨nb, 0, none⟩ = some (.int .i64 xi)) := ((fr_setCells sg [.int .i64 xi, .bool true] (k * 2) w6).cell (World.block_lt_of_cell? _ _ n0) HSG.out).trans n0
            clear HT0 h0 H9 HN9 hw6 u6
            simp only [List.take_succ_cons, List.take_zero, List.drop_succ_cons, List.drop_zero]
            repeat (go_big_quiet_step (fail))
            refine wpQuiet_nil ?_
            go_wp2_with (refine wpList_store_mid rfl 60 _ _ rfl sg (k * 2) #[.int .i64 xi, .bool true] rfl rfl HT.out (by kernel_rfl) (by simp [Value.oneCell']) ?_; have n1 := HN.out)
            go_ret2
            exact ⟨by first | rfl | (simp; done), H0.out⟩
          · skip
            go_simp
            have ub : Up wd (wd.alloc (Obj.cells #[.int .i64 xi, .bool xr] 69)) := (Up.refl wd).alloc _
            have kn : (wd.alloc (Obj.cells #[.int .i64 xi, .bool xr] 69)).heap[wd.heap.size]? = some (.cells #[.int .i64 xi, .bool xr] 69 (0, 0)) := heap_alloc_new wd _
            refine hK.out _ _ (HB.out _ (fd.trans (Fr.ofUp ub))) (fun _ => ?_)
            clear hK KK
            try simp only [Act.put, List.setIfInBounds_toArray, List.set_cons_zero, List.set_cons_succ]
            have hlt9 : wd.heap.size < (wd.alloc (Obj.cells #[.int .i64 xi, .bool xr] 69)).heap.size := by simp
            obtain ⟨nk, hnk⟩ : ∃ nk, nk = wd.heap.size := ⟨_, rfl⟩
            rw [← hnk] at kn hlt9 ⊢
            have hnk2 : nk ≠ g := by have h1 := HG.out.1; have h2 := HG.out.2.1; have h3 := ud.size; omega
            clear hnk
            generalize World.alloc wd _ = wf at ub kn hlt9 ⊢
            have uf : Up w3 wf := ud.trans ub
            have ff : Fr g w3 wf := Fr.ofUp uf
            refine wpAnyH_ready (rs := [8]) (by kernel_rfl) (by simp) ?_
            refine AllReadyH.cons (by simp only [List.getElem?_toArray, List.getElem?_cons_succ, List.getElem?_cons_zero]; rfl) (fun KK hK => ?_) AllReadyH.nil
            go_simp
            refine (HD.out wf uf).mono ?_
            rintro e we ⟨rfl, own, fr⟩
            have f8 : Fr g w3 we := (ff).trans fr
            refine hK.out _ _ (HB.out we f8) (fun _ => ?_)
            clear hK KK
            try simp only [Act.put, List.setIfInBounds_toArray, List.set_cons_zero, List.set_cons_succ]
            replace kn : we.heap[nk]? = some (.cells #[.int .i64 xi, .bool xr] 69 (0, 0)) := (fr.block nk hlt9 hnk2).trans kn
            refine wpAnyH_ready (rs := [11]) (by kernel_rfl) (by simp) ?_
            refine AllReadyH.cons (by simp only [List.getElem?_toArray, List.getElem?_cons_succ, List.getElem?_cons_zero]; rfl) (fun KK hK => ?_) AllReadyH.nil
            rw [if_pos (by rfl)]
            refine wp_append_at _ _ _ 61 rfl 0 69 Try.t69 (.agg #[.int .i64 0, .bool false]) 2 16 Try.underlying61 hie rfl rfl rfl rfl (by decide) (.slice (some ⟨g, 0, none⟩) m cap) m (memCells X) rfl own ⟨nk, 0, none⟩ 1 1 [.int .i64 xi, .bool xr] rfl rfl (by intro j u hu; rw [Addr.add_lit, Nat.zero_add, cell_of_row _ _ _ _ _ _ kn]; simpa using hu) (by intro u hu; simp at hu; rcases hu with rfl | rfl <;> rfl) (by unfold maxLen; omega) (by omega) (Nat.zero_le _) ?_
            intro v' wz ho hg hat
            obtain ⟨va', vn', vc', rfl⟩ := own_slice3 ho
            have fz : Fr g w3 wz := (f8).trans ⟨hg.os, hg.output, hg.size, fun b hb hn => hg.block b hb (fun e => hn (Option.some.inj e))⟩
            have hz := HE.out wz _ fz ho (by rcases hat with e | e; exact Or.inl e; exact Or.inr ⟨_, e, Nat.le_trans HG.out.2.1 (Nat.le_trans (f8).size (Nat.le_refl _))⟩)
            have H9 : Hid _ := hz.2
            have kz := hz.1.1
            have zz := hz.1.2
            refine hK.out _ _ (HB.out wz fz) (fun _ => ?_)
            clear hK KK
            try simp only [Act.put, List.setIfInBounds_toArray, List.set_cons_zero, List.set_cons_succ]
            clear hz ho hg hat
            refine wpAnyH_take (i := 12) (v := ?_) (by simp only [List.getElem?_toArray, List.getElem?_cons_succ, List.getElem?_cons_zero]; rfl) (by kernel_rfl) (by kernel_rfl) (by kernel_rfl) (by intro _ _ _ h; exact h) (Or.inl ⟨by rfl, ?_⟩) (by assumption) ?_
            rotate_left
            · (intro w hSw; (try dsimp only at hSw); go_simp <;> with_reducible rfl)
            try simp only [Act.put, List.setIfInBounds_toArray, List.set_cons_zero, List.set_cons_succ]
            refine wpAnyH_take (i := 13) (v := ?_) (by simp only [List.getElem?_toArray, List.getElem?_cons_succ, List.getElem?_cons_zero]; rfl) (by kernel_rfl) (by kernel_rfl) (by kernel_rfl) (by intro _ _ _ h; exact h) (Or.inl ⟨by rfl, ?_⟩) (by assumption) ?_
            rotate_left
            · (intro w hSw; (try dsimp only at hSw); go_simp <;> with_reducible rfl)
            try simp only [Act.put, List.setIfInBounds_toArray, List.set_cons_zero, List.set_cons_succ]
            refine wpAnyH_ready (rs := [14]) (by kernel_rfl) (by simp) ?_
            refine AllReadyH.cons (by simp only [List.getElem?_toArray, List.getElem?_cons_succ, List.getElem?_cons_zero]; rfl) (fun KK hK => ?_) AllReadyH.nil
            go_simp
            refine hK.out _ _ (HB2.out wz _ fz) (fun _ => ?_)
            clear hK KK
            try simp only [Act.put, List.setIfInBounds_toArray, List.set_cons_zero, List.set_cons_succ]
            refine wpAnyH_done (by kernel_rfl) ?_ _
            have HN9 : Hid _ := HB2.out wz (.slice va' vn' vc') fz
            clear fz kz zz HB HB2 HE HD HK
            generalize World.setCell wz _ _ = w5 at H9 HN9 ⊢
            go_wp2_with fail
            refine wp_still2 9 (by kernel_rfl) (by decide +kernel) ?_
            intro w6 hw6
            have u6 : Up w5 w6 := by rw [hw6]; exact (Up.refl w5).drew
            have n0 : w6.cell? ⟨nb, 0, none⟩ = some (.int .i64 xi) := cell_up u6 (HN9.out 0 _ rfl)
            obtain ⟨q1, HT0, h0⟩ := H9.out w6 u6
            have HT : Hid (w6.there sg (k * 2) 2) := HT0
            have H0 : Hid _ := h0
            have HN : Hid ((w6.setCells sg (k * 2) [.int .i64 xi, .bool true]).cell? ⟨nb, 0, none⟩ = some (.int .i64 xi)) := ((fr_setCells sg [.int .i64 xi, .bool true] (k * 2) w6).cell (World.block_lt_of_cell? _ _ n0) HSG.out).trans n0
            clear HT0 h0 H9 HN9 hw6 u6
            simp only [List.take_succ_cons, List.take_zero, List.drop_succ_cons, List.drop_zero]
            repeat (go_big_quiet_step (fail))
            refine wpQuiet_nil ?_
            go_wp2_with (refine wpList_store_mid rfl 60 _ _ rfl sg (k * 2) #[.int .i64 xi, .bool true] rfl rfl HT.out (by kernel_rfl) (by simp [Value.oneCell']) ?_; have n1 := HN.out)
            go_ret2
            exact ⟨by first | rfl | (simp; done), H0.out⟩
        · skip
          go_simp
          have ub : Up wd (wd.alloc (Obj.cells #[.int .i64 xi, .bool xr] 69)) := (Up.refl wd).alloc _
          have kn : (wd.alloc (Obj.cells #[.int .i64 xi, .bool xr] 69)).heap[wd.heap.size]? = some (.cells #[.int .i64 xi, .bool xr] 69 (0, 0)) := heap_alloc_new wd _
          refine hK.out _ _ (HB.out _ (fd.trans (Fr.ofUp ub))) (fun _ => ?_)
          clear hK KK
          try simp only [Act.put, List.setIfInBounds_toArray, List.set_cons_zero, List.set_cons_succ]
          have hlt9 : wd.heap.size < (wd.alloc (Obj.cells #[.int .i64 xi, .bool xr] 69)).heap.size := by simp
          obtain ⟨nk, hnk⟩ : ∃ nk, nk = wd.heap.size := ⟨_, rfl⟩
          rw [← hnk] at kn hlt9 ⊢
          have hnk2 : nk ≠ g := by have h1 := HG.out.1; have h2 := HG.out.2.1; have h3 := ud.size; omega
          clear hnk
          generalize World.alloc wd _ = wf at ub kn hlt9 ⊢
          have uf : Up w3 wf := ud.trans ub
          have ff : Fr g w3 wf := Fr.ofUp uf
          refine wpAnyH_ready (rs := [4]) (by kernel_rfl) (by simp) ?_
          refine AllReadyH.cons (by simp only [List.getElem?_toArray, List.getElem?_cons_succ, List.getElem?_cons_zero]; rfl) (fun KK hK => ?_) AllReadyH.nil
          have kc := HK.out wf ff
          go_simp
          refine hK.out _ _ (HB.out wf ff) (fun _ => ?_)
          clear hK KK
          try simp only [Act.put, List.setIfInBounds_toArray, List.set_cons_zero, List.set_cons_succ]
          clear kc
          refine wpAnyH_ready (rs := [8]) (by kernel_rfl) (by simp) ?_
          refine AllReadyH.cons (by simp only [List.getElem?_toArray, List.getElem?_cons_succ, List.getElem?_cons_zero]; rfl) (fun KK hK => ?_) AllReadyH.nil
          go_simp
          refine (HD.out wf uf).mono ?_
          rintro e we ⟨rfl, own, fr⟩
          have f8 : Fr g w3 we := (ff).trans fr
          refine hK.out _ _ (HB.out we f8) (fun _ => ?_)
          clear hK KK
          try simp only [Act.put, List.setIfInBounds_toArray, List.set_cons_zero, List.set_cons_succ]
          replace kn : we.heap[nk]? = some (.cells #[.int .i64 xi, .bool xr] 69 (0, 0)) := (fr.block nk hlt9 hnk2).trans kn
          refine wpAnyH_ready (rs := [11]) (by kernel_rfl) (by simp) ?_
          refine AllReadyH.cons (by simp only [List.getElem?_toArray, List.getElem?_cons_succ, List.getElem?_cons_zero]; rfl) (fun KK hK => ?_) AllReadyH.nil
          rw [if_pos (by rfl)]
          refine wp_append_at _ _ _ 61 rfl 0 69 Try.t69 (.agg #[.int .i64 0, .bool false]) 2 16 Try.underlying61 hie rfl rfl rfl rfl (by decide) (.slice (some ⟨g, 0, none⟩) m cap) m (memCells X) rfl own ⟨nk, 0, none⟩ 1 1 [.int .i64 xi, .bool xr] rfl rfl (by intro j u hu; rw [Addr.add_lit, Nat.zero_add, cell_of_row _ _ _ _ _ _ kn]; simpa using hu) (by intro u hu; simp at hu; rcases hu with rfl | rfl <;> rfl) (by unfold maxLen; omega) (by omega) (Nat.zero_le _) ?_
          intro v' wz ho hg hat
          obtain ⟨va', vn', vc', rfl⟩ := own_slice3 ho
          have fz : Fr g w3 wz := (f8).trans ⟨hg.os, hg.output, hg.size, fun b hb hn => hg.block b hb (fun e => hn (Option.some.inj e))⟩
          have hz := HE.out wz _ fz ho (by rcases hat with e | e; exact Or.inl e; exact Or.inr ⟨_, e, Nat.le_trans HG.out.2.1 (Nat.le_trans (f8).size (Nat.le_refl _))⟩)
          have H9 : Hid _ := hz.2
          have kz := hz.1.1
          have zz := hz.1.2
          refine hK.out _ _ (HB.out wz fz) (fun _ => ?_)
          clear hK KK
          try simp only [Act.put, List.setIfInBounds_toArray, List.set_cons_zero, List.set_cons_succ]
          clear hz ho hg hat
          refine wpAnyH_take (i := 12) (v := ?_) (by simp only [List.getElem?_toArray, List.getElem?_cons_succ, List.getElem?_cons_zero]; rfl) (by kernel_rfl) (by kernel_rfl) (by kernel_rfl) (by intro _ _ _ h; exact h) (Or.inl ⟨by rfl, ?_⟩) (by assumption) ?_
          rotate_left
          · (intro w hSw; (try dsimp only at hSw); go_simp <;> with_reducible rfl)
          try simp only [Act.put, List.setIfInBounds_toArray, List.set_cons_zero, List.set_cons_succ]
          refine wpAnyH_take (i := 13) (v := ?_) (by simp only [List.getElem?_toArray, List.getElem?_cons_succ, List.getElem?_cons_zero]; rfl) (by kernel_rfl) (by kernel_rfl) (by kernel_rfl) (by intro _ _ _ h; exact h) (Or.inl ⟨by rfl, ?_⟩) (by assumption) ?_
          rotate_left
          · (intro w hSw; (try dsimp only at hSw); go_simp <;> with_reducible rfl)
          try simp only [Act.put, List.setIfInBounds_toArray, List.set_cons_zero, List.set_cons_succ]
          refine wpAnyH_ready (rs := [14]) (by kernel_rfl) (by simp) ?_
          refine AllReadyH.cons (by simp only [List.getElem?_toArray, List.getElem?_cons_succ, List.getElem?_cons_zero]; rfl) (fun KK hK => ?_) AllReadyH.nil
          go_simp
          refine hK.out _ _ (HB2.out wz _ fz) (fun _ => ?_)
          clear hK KK
          try simp only [Act.put, List.setIfInBounds_toArray, List.set_cons_zero, List.set_cons_succ]
          refine wpAnyH_done (by kernel_rfl) ?_ _
          have HN9 : Hid _ := HB2.out wz (.slice va' vn' vc') fz
          clear fz kz zz HB HB2 HE HD HK
          generalize World.setCell wz _ _ = w5 at H9 HN9 ⊢
          go_wp2_with fail
          refine wp_still2 9 (by kernel_rfl) (by decide +kernel) ?_
          intro w6 hw6
          have u6 : Up w5 w6 := by rw [hw6]; exact (Up.refl w5).drew
          have n0 : w6.cell? ⟨nb, 0, none⟩ = some (.int .i64 xi) := cell_up u6 (HN9.out 0 _ rfl)
          obtain ⟨q1, HT0, h0⟩ := H9.out w6 u6
          have HT : Hid (w6.there sg (k * 2) 2) := HT0
          have H0 : Hid _ := h0
          have HN : Hid ((w6.setCells sg (k * 2) [.int .i64 xi, .bool true]).cell? ⟨nb, 0, none⟩ = some (.int .i64 xi)) := ((fr_setCells sg [.int .i64 xi, .bool true] (k * 2) w6).cell (World.block_lt_of_cell? _ _ n0) HSG.out).trans n0
          clear HT0 h0 H9 HN9 hw6 u6
          simp only [List.take_succ_cons, List.take_zero, List.drop_succ_cons, List.drop_zero]
          repeat (go_big_quiet_step (fail))
          refine wpQuiet_nil ?_
          go_wp2_with (refine wpList_store_mid rfl 60 _ _ rfl sg (k * 2) #[.int .i64 xi, .bool true] rfl rfl HT.out (by kernel_rfl) (by simp [Value.oneCell']) ?_; have n1 := HN.out)
          go_ret2
          exact ⟨by first | rfl | (simp; done), H0.out⟩
      · have e1 : S.begE (k : Int) = 134 := by unfold Sd.begE; rw [hs]; show (if false = true then _ else if _ then _ else _) = _; rw [if_neg (by decide), if_neg hn]
        have e2 : S.begN (k : Int) = 0 := if_neg (by rw [e1]; decide)
        have e3 : S.begin (k : Int) = S := if_neg (by rw [e1]; decide)
        rw [e1, e2, e3]
        have HR : Hid (∀ w, Up W w → SdAt K w sb S ∧ FK K W w) := fun w u => h.refl_up u
        rw [idxI_no hn] at HF
        clear h e1 e2 e3 hs hk hn
        generalize S.slo.length = n at *
        go_enter Try.func11, Try.ntmps11
        go_wp2_with fail
        refine (HH.out _ rfl).mono ?_
        rintro e w1 ⟨rfl, hw⟩
        obtain rfl := hw.symm
        go_wp2_with fail
        refine (HW.out _ rfl).mono ?_
        rintro e w1 ⟨q, rfl, hq, u1⟩
        have H1 : Hid _ := HF.out w1 q u1 hq
        clear hq u1 HW HF
        go_wp2_with fail
        refine Calls.mono H1.out ?_
        rintro e w2 ⟨rfl, u2⟩
        have H2 : Hid _ := HR.out w2 u2
        clear u2 H1 HR
        go_wp2_with fail
        go_ret2
        exact ⟨by first | rfl | (simp; done), H2.out⟩
end Go.Proofs.Ytakciepfckdpfaa
