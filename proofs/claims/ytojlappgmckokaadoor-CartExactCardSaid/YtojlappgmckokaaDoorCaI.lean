/- Cart: fault. -/
import Derived.Test.YtojlappgmckokaaDoorCaH
namespace Go.Proofs.YtojlappgmckokaaDoor
open Go.Shelf Go.RowKit
set_option linter.unusedVariables false
variable {w w' W : World} {g n : Nat} {f : Nat → Int}
theorem range_heap {b : Nat} {cs : List Value} {ty : TypeId} (h : w.heap[b]? = some (.cells cs.toArray ty (0, 0))) : w.rangeAt b 0 cs := fun k v hk => by
  rw [Nat.zero_add]
  exact heap_cell h (by simpa using hk)
def faultI (mk : Bool) (f : Nat → Int) (R : Rw) (b : Bool) (n : Nat) : Int :=
  if mk = false then 42 else if ¬ f 333 = (231 - sig f 25) % 256 then 43 else if f 323 = 192 then 44 else if b = false then 45 else if takesB R (f 328).toNat n = false then 46 else if f 329 < (R.lo : Int) ∨ (R.hi : Int) < f 329 then 47 else 0
def FaultAns (W : World) (f : Nat → Int) (R : Rw) (b : Bool) (n : Nat) (e : Ending) (w' : World) : Prop := ∃ mk, e = .returned (.int .i64 (faultI mk f R b n)) ∧ MarkIs f mk ∧ Up W w'
set_option maxRecDepth 100000 in
set_option maxHeartbeats 2000000 in
theorem fault_any {R : Rw} {b : Bool} {c : Nat} (h : By W g n f) (hn : 512 ≤ n) (hc : n ≤ c) (hm : c ≤ 9223372036854775807) (h8 : ∀ k, 0 ≤ f k ∧ f k ≤ 255) (hb : R.banks ≤ 128 ∧ R.lo ≤ 5 ∧ R.hi ≤ 5) : Calls Tryd.prog 33 #[.slice (some ⟨g, 0, none⟩) n c, .agg R.cells.toArray, .bool b] W (FaultAns W f R b n) := by
  have HB : Hid (∀ w, Up W w → By w g n f) := fun w u => h.up u
  have H8 : Hid (∀ k, 0 ≤ f k ∧ f k ≤ 255) := h8
  have HM : Hid (∀ w, Up W w → Calls Tryd.prog 58 #[.slice (some ⟨g, 0, none⟩) n c] w (MarkAns w f)) := fun w u => marked_any (h.up u) hn hc hm h8
  have HS : Hid (∀ w, Up W w → Calls Tryd.prog 59 #[.slice (some ⟨g, 0, none⟩) n c] w fun e w' => e = .returned (.int .u8 ((231 - sig f 25) % 256)) ∧ w' = w) := fun w u => sum_any (h.up u) hn hc hm h8
  obtain ⟨c8, hc8⟩ : ∃ c8 : Nat, f 328 = (c8 : Int) := Int.eq_ofNat_of_zero_le (h8 328).1
  have c8b : c8 ≤ 255 := by have := (h8 328).2; omega
  have HT : Hid (∀ w, Calls Tryd.prog 60 #[.agg R.cells.toArray, .int .u8 (c8 : Int), .int .i64 (n : Int)] w fun e w' => e = .returned (.bool (takesB R c8 n)) ∧ Up w w') := fun w => takes_any c8b hb.1 (by omega)
  have HF : Hid (∀ mk, faultI mk f R b n = if mk = false then 42 else if ¬ f 333 = (231 - sig f 25) % 256 then 43 else if f 323 = 192 then 44 else if b = false then 45 else if takesB R c8 n = false then 46 else if f 329 < (R.lo : Int) ∨ (R.hi : Int) < f 329 then 47 else 0) := fun mk => by
    show faultI mk f R b n = _
    unfold faultI
    rw [hc8, Int.toNat_natCast]
  have g33 := h8 333
  have g23 := h8 323
  have g29 := h8 329
  obtain ⟨kd, mp, bk, lo, hi', bt⟩ := R
  obtain ⟨_, b5, b6⟩ := hb
  have b5 : lo ≤ 5 := b5
  have b6 : hi' ≤ 5 := b6
  have HTx : Hid (∀ w, Calls Tryd.prog 60 #[.agg #[.int .u8 (kd : Int), .int .i64 (mp : Int), .int .i64 (bk : Int), .int .u8 (lo : Int), .int .u8 (hi' : Int), .bool bt], .int .u8 (c8 : Int), .int .i64 (n : Int)] w fun e w' => e = .returned (.bool (takesB ⟨kd, mp, bk, lo, hi', bt⟩ c8 n)) ∧ Up w w') := HT.out
  have HFx : Hid (∀ mk, faultI mk f ⟨kd, mp, bk, lo, hi', bt⟩ b n = if mk = false then 42 else if ¬ f 333 = (231 - sig f 25) % 256 then 43 else if f 323 = 192 then 44 else if b = false then 45 else if takesB ⟨kd, mp, bk, lo, hi', bt⟩ c8 n = false then 46 else if f 329 < (lo : Int) ∨ (hi' : Int) < f 329 then 47 else 0) := HF.out
  clear HT HF
  show Calls Tryd.prog _ #[.slice (some ⟨g, 0, none⟩) n c, .agg #[.int .u8 (kd : Int), .int .i64 (mp : Int), .int .i64 (bk : Int), .int .u8 (lo : Int), .int .u8 (hi' : Int), .bool bt], .bool b] W _
  have sm : 0 ≤ (231 - sig f 25) % 256 ∧ (231 - sig f 25) % 256 ≤ 255 := mod_byte _
  have HC : Hid (∀ w, Up W w → w.cell? ⟨g, 333, none⟩ = some (.int .u8 (f 333)) ∧ w.cell? ⟨g, 323, none⟩ = some (.int .u8 (f 323)) ∧ w.cell? ⟨g, 328, none⟩ = some (.int .u8 (c8 : Int)) ∧ w.cell? ⟨g, 329, none⟩ = some (.int .u8 (f 329))) := fun w u => ⟨(h.up u).cell 333 (by omega), (h.up u).cell 323 (by omega), by rw [← hc8]; exact (h.up u).cell 328 (by omega), (h.up u).cell 329 (by omega)⟩
  generalize takesB ⟨kd, mp, bk, lo, hi', bt⟩ c8 n = T at *
  clear h h8 hc8 HB
  generalize f 333 = x33 at *
  generalize f 323 = x23 at *
  generalize f 329 = x29 at *
  generalize (231 - sig f 25) % 256 = SM at *
  go_enter Tryd.func33, Tryd.ntmps33
  go_wp2_with fail
  have ua : Up W (W.alloc (Obj.cells #[.int .u8 (kd : Int), .int .i64 (mp : Int), .int .i64 (bk : Int), .int .u8 (lo : Int), .int .u8 (hi' : Int), .bool bt] 71)) := (Up.refl W).alloc _
  have HU : Hid _ := ua
  have HR : Hid ((W.alloc (Obj.cells #[.int .u8 (kd : Int), .int .i64 (mp : Int), .int .i64 (bk : Int), .int .u8 (lo : Int), .int .u8 (hi' : Int), .bool bt] 71)).heap[W.heap.size]? = some (.cells #[.int .u8 (kd : Int), .int .i64 (mp : Int), .int .i64 (bk : Int), .int .u8 (lo : Int), .int .u8 (hi' : Int), .bool bt] 71 (0, 0))) := heap_alloc_new W _
  clear ua
  generalize World.alloc W _ = W1 at HU HR ⊢
  generalize hrb : W.heap.size = rb at HR ⊢
  refine (HM.out _ HU.out).mono ?_
  rintro e w' ⟨mk, rfl, hmk, hw'⟩
  obtain rfl := hw'.symm
  clear hw'
  have HK : Hid (MarkIs f mk) := hmk
  have hF := HFx.out mk
  clear hmk HFx HM
  cases mk with
  | false =>
    go_wp2_with fail
    go_ret
    exact ⟨false, by rw [hF]; rfl, HK.out, HU.out⟩
  | true =>
    rw [if_neg (by decide)] at hF
    have HW : Hid (∀ nq, Up W (W1.drewN nq) ∧ (W1.drewN nq).heap[rb]? = some (.cells #[.int .u8 (kd : Int), .int .i64 (mp : Int), .int .i64 (bk : Int), .int .u8 (lo : Int), .int .u8 (hi' : Int), .bool bt] 71 (0, 0))) := fun nq => ⟨HU.out.trans (Up.drewN _ _), ((Up.drewN W1 nq).block rb (heap_at HR.out)).trans HR.out⟩
    obtain ⟨k33, k23, k28, k29⟩ := HC.out _ HU.out
    clear k23 k28 k29
    by_cases h33 : x33 = SM
    · subst h33
      rw [if_neg (by simp)] at hF
      go_wp2_with fail
      go_quiet ((go_at_call 59; exact Calls.quiet_of_same (HS.out _ (by first | exact HU.out | exact HU.out.trans (Up.drewN _ _) | exact HU.out.drew))))
      obtain ⟨u2, r2⟩ := HW.out nq
      obtain ⟨k33, k23, k28, k29⟩ := HC.out _ u2
      have HU2 : Hid _ := u2
      have HR2 : Hid _ := r2
      clear u2 r2 HW HU HR
      generalize World.drewN _ nq = W2 at *
      by_cases h23 : x23 = 192
      · rw [if_pos h23] at hF
        subst h23
        go_wp2_with fail
        go_ret
        exact ⟨true, by rw [hF]; first | rfl | (simp; done), HK.out, HU2.out⟩
      · rw [if_neg h23] at hF
        cases b with
        | false =>
          go_wp2_with fail
          go_ret
          exact ⟨true, by rw [hF]; rfl, HK.out, HU2.out⟩
        | true =>
          rw [if_neg (by decide)] at hF
          have kr : W2.rangeAt rb 0 [.int .u8 (kd : Int), .int .i64 (mp : Int), .int .i64 (bk : Int), .int .u8 (lo : Int), .int .u8 (hi' : Int), .bool bt] := range_heap HR2.out
          have HRg : Hid _ := kr
          clear kr
          have e328 : (328 : Int) < (n : Int) := by omega
          have HSw : Hid (∀ w, Up W2 w → w.rangeAt rb 0 [.int .u8 (kd : Int), .int .i64 (mp : Int), .int .i64 (bk : Int), .int .u8 (lo : Int), .int .u8 (hi' : Int), .bool bt] ∧ w.cell? ⟨g, 328, none⟩ = some (.int .u8 (c8 : Int))) := fun w u => ⟨range_up u HRg.out, cell_up u k28⟩
          go_wp2_with fail
          refine wp_region_held_drew (S := fun w => w.rangeAt rb 0 [.int .u8 (kd : Int), .int .i64 (mp : Int), .int .i64 (bk : Int), .int .u8 (lo : Int), .int .u8 (hi' : Int), .bool bt] ∧ w.cell? ⟨g, 328, none⟩ = some (.int .u8 (c8 : Int))) (by kernel_rfl) ?_ (fun hHeld => ?_)
          · exact HSw.out _ (Up.refl W2).drew
          have u6 : Up W2 W2.drew := (Up.refl W2).drew
          generalize World.drew W2 = wd at u6 hHeld ⊢
          refine wpAnyH_take (i := 0) (v := .agg [.int .u8 (kd : Int), .int .i64 (mp : Int), .int .i64 (bk : Int), .int .u8 (lo : Int), .int .u8 (hi' : Int), .bool bt].toArray) (by simp only [List.getElem?_toArray, List.getElem?_cons_zero]; rfl) (by kernel_rfl) (by kernel_rfl) (by kernel_rfl) (by intro _ _ _ h; exact h) (yieldsIf_load_mid (by rfl) 71 _ rfl rb 0 rfl [.int .u8 (kd : Int), .int .i64 (mp : Int), .int .i64 (bk : Int), .int .u8 (lo : Int), .int .u8 (hi' : Int), .bool bt] _ (fun w hw => hw.1) Tryd.underlying71 rfl (by kernel_rfl)) (by assumption) ?_
          simp only [Act.put, List.setIfInBounds_toArray, List.set_cons_zero, List.set_cons_succ]
          refine wpAnyH_take (i := 1) (v := ?_) (by simp only [List.getElem?_toArray, List.getElem?_cons_succ, List.getElem?_cons_zero]; rfl) (by kernel_rfl) (by kernel_rfl) (by kernel_rfl) (by intro _ _ _ h; exact h) (Or.inl ⟨by rfl, ?_⟩) (by assumption) ?_
          rotate_left
          · (intro w hSw; (try dsimp only at hSw); go_simp <;> with_reducible rfl)
          try simp only [Act.put, List.setIfInBounds_toArray, List.set_cons_zero, List.set_cons_succ]
          refine wpAnyH_take (i := 2) (v := ?_) (by simp only [List.getElem?_toArray, List.getElem?_cons_succ, List.getElem?_cons_zero]; rfl) (by kernel_rfl) (by kernel_rfl) (by kernel_rfl) (by intro _ _ _ h; exact h) (Or.inl ⟨by rfl, ?_⟩) (by assumption) ?_
          rotate_left
          · (intro w hSw; (try dsimp only at hSw); go_simp <;> with_reducible rfl)
          try simp only [Act.put, List.setIfInBounds_toArray, List.set_cons_zero, List.set_cons_succ]
          refine wpAnyH_take (i := 3) (v := ?_) (by simp only [List.getElem?_toArray, List.getElem?_cons_succ, List.getElem?_cons_zero]; rfl) (by kernel_rfl) (by kernel_rfl) (by kernel_rfl) (by intro _ _ _ h; exact h) (Or.inl ⟨by rfl, ?_⟩) (by assumption) ?_
          rotate_left
          · (intro w hSw; (try dsimp only at hSw); go_simp <;> with_reducible rfl)
          try simp only [Act.put, List.setIfInBounds_toArray, List.set_cons_zero, List.set_cons_succ]
          refine wpAnyH_take (i := 4) (v := ?_) (by simp only [List.getElem?_toArray, List.getElem?_cons_succ, List.getElem?_cons_zero]; rfl) (by kernel_rfl) (by kernel_rfl) (by kernel_rfl) (by intro _ _ _ h; exact h) (Or.inl ⟨by rfl, ?_⟩) (by assumption) ?_
          rotate_left
          · (intro w hSw; (try dsimp only at hSw); go_simp <;> with_reducible rfl)
          try simp only [Act.put, List.setIfInBounds_toArray, List.set_cons_zero, List.set_cons_succ]
          refine wpAnyH_take (i := 5) (v := ?_) (by simp only [List.getElem?_toArray, List.getElem?_cons_succ, List.getElem?_cons_zero]; rfl) (by kernel_rfl) (by kernel_rfl) (by kernel_rfl) (by intro _ _ _ h; exact h) (Or.inl ⟨by rfl, ?_⟩) (by assumption) ?_
          rotate_left
          · (intro w hSw; (try dsimp only at hSw); go_simp <;> with_reducible rfl)
          try simp only [Act.put, List.setIfInBounds_toArray, List.set_cons_zero, List.set_cons_succ]
          refine wpAnyH_ready (rs := [6]) (by kernel_rfl) (by simp) ?_
          refine AllReadyH.cons (by simp only [List.getElem?_toArray, List.getElem?_cons_succ, List.getElem?_cons_zero]; rfl) (fun KK hK => ?_) AllReadyH.nil
          go_simp
          refine (HTx.out wd).mono ?_
          rintro e w4 ⟨rfl, u4⟩
          have HX : Hid (Up W2 w4) := u6.trans u4
          refine hK.out _ _ (HSw.out _ HX.out) (fun hHeld => ?_)
          clear hK KK u4 u6
          try simp only [Act.put, List.setIfInBounds_toArray, List.set_cons_zero, List.set_cons_succ]
          refine wpAnyH_take (i := 7) (v := ?_) (by simp only [List.getElem?_toArray, List.getElem?_cons_succ, List.getElem?_cons_zero]; rfl) (by kernel_rfl) (by kernel_rfl) (by kernel_rfl) (by intro _ _ _ h; exact h) (Or.inl ⟨by rfl, ?_⟩) (by assumption) ?_
          rotate_left
          · (intro w hSw; (try dsimp only at hSw); go_simp <;> with_reducible rfl)
          try simp only [Act.put, List.setIfInBounds_toArray, List.set_cons_zero, List.set_cons_succ]
          refine wpAnyH_take (i := 8) (v := ?_) (by simp only [List.getElem?_toArray, List.getElem?_cons_succ, List.getElem?_cons_zero]; rfl) (by kernel_rfl) (by kernel_rfl) (by kernel_rfl) (by intro _ _ _ h; exact h) (Or.inl ⟨by rfl, ?_⟩) (by assumption) ?_
          rotate_left
          · (intro w hSw; (try dsimp only at hSw); go_simp <;> with_reducible rfl)
          try simp only [Act.put, List.setIfInBounds_toArray, List.set_cons_zero, List.set_cons_succ]
          refine wpAnyH_done (by kernel_rfl) ?_ _
          clear hHeld HSw HTx
          have k29' := cell_up HX.out k29
          have HR4 : Hid (w4.heap[rb]? = some (.cells #[.int .u8 (kd : Int), .int .i64 (mp : Int), .int .i64 (bk : Int), .int .u8 (lo : Int), .int .u8 (hi' : Int), .bool bt] 71 (0, 0))) := (HX.out.block rb (heap_at HR2.out)).trans HR2.out
          have HU4 : Hid (Up W w4) := HU2.out.trans HX.out
          have kl : w4.cell? ⟨rb, 3, none⟩ = some (.int .u8 (lo : Int)) := heap_cell HR4.out rfl
          have kh : w4.cell? ⟨rb, 4, none⟩ = some (.int .u8 (hi' : Int)) := heap_cell HR4.out rfl
          clear k23 k28 k29 k33 HRg HR2 HU2 HX HR4 HC
          cases T with
          | false =>
            go_wp2_with fail
            go_ret
            exact ⟨true, by rw [hF]; first | rfl | (simp; done), HK.out, HU4.out⟩
          | true =>
            rw [if_neg (by decide)] at hF
            by_cases h1 : x29 < (lo : Int)
            · rw [if_pos (Or.inl h1)] at hF
              have d1 : decide (x29 < (lo : Int)) = true := decide_eq_true h1
              go_wp2_with fail
              first | go_quiet (fail) | skip
              go_wp2_with fail
              go_ret
              exact ⟨true, by rw [hF]; first | rfl | (simp; done), HK.out, by first | exact HU4.out | exact HU4.out.trans (Up.drewN _ _)⟩
            · by_cases h2 : (hi' : Int) < x29
              · rw [if_pos (Or.inr h2)] at hF
                have d1 : decide (x29 < (lo : Int)) = false := decide_eq_false h1
                have d2 : decide ((hi' : Int) < x29) = true := decide_eq_true h2
                go_wp2_with fail
                first | go_quiet (fail) | skip
                go_wp2_with fail
                go_ret
                exact ⟨true, by rw [hF]; first | rfl | (simp; done), HK.out, by first | exact HU4.out | exact HU4.out.trans (Up.drewN _ _)⟩
              · rw [if_neg (by omega)] at hF
                have d1 : decide (x29 < (lo : Int)) = false := decide_eq_false h1
                have d2 : decide ((hi' : Int) < x29) = false := decide_eq_false h2
                go_wp2_with fail
                first | go_quiet (fail) | skip
                go_wp2_with fail
                go_ret
                exact ⟨true, by rw [hF]; first | rfl | (simp; done), HK.out, by first | exact HU4.out | exact HU4.out.trans (Up.drewN _ _)⟩
    · rw [if_pos h33] at hF
      have d33 : (x33 == SM) = false := by simp [h33]
      go_wp2_with fail
      go_quiet ((go_at_call 59; exact Calls.quiet_of_same (HS.out _ (by first | exact HU.out | exact HU.out.trans (Up.drewN _ _) | exact HU.out.drew))))
      go_wp2_with fail
      go_ret
      exact ⟨true, by rw [hF]; first | rfl | (simp; done), HK.out, (HW.out nq).1⟩
end Go.Proofs.YtojlappgmckokaaDoor
