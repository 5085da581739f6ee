import Derived.Test.YtojlappgmckokaaDoorXmE
import Derived.Deep.DeepCutAuto
import Derived.Deep.CutBlock
/- Cart: the document's answer: Check. -/
namespace Go.Proofs.YtojlappgmckokaaDoor
open Go.Shelf Go.RowKit
set_option linter.unusedVariables false
set_option linter.unusedSimpArgs false
variable {w w' W : World} {g n : Nat} {f : Nat → Int}
set_option maxRecDepth 100000 in
set_option maxHeartbeats 2000000 in
theorem checkR_short {c : Nat} {a : Option Addr} (hc : n ≤ c) (hm : c ≤ 9223372036854775807) (h : n < 32768 ∨ 2097152 < n) : Calls Tryd.prog 29 #[.slice a n c] W fun e w' => e = .returned (.tuple #[.agg zHead, .int .i64 41]) ∧ Up W w' := by
  have HB : Hid (((W.alloc (Obj.cells #[.string ⟨#[]⟩, .int .i64 0, .int .i64 0, .int .i64 0, .int .i64 0, .bool false] 30)).alloc (Obj.cells #[.string ⟨#[]⟩, .int .i64 0, .int .i64 0, .int .i64 0, .int .i64 0, .bool false] 30)).heap[W.heap.size]? = some (.cells #[.string ⟨#[]⟩, .int .i64 0, .int .i64 0, .int .i64 0, .int .i64 0, .bool false] 30 (0, 0))) := (heap_two W _ _).trans (heap_alloc_new W _)
  have HU : Hid (Up W ((W.alloc (Obj.cells #[.string ⟨#[]⟩, .int .i64 0, .int .i64 0, .int .i64 0, .int .i64 0, .bool false] 30)).alloc (Obj.cells #[.string ⟨#[]⟩, .int .i64 0, .int .i64 0, .int .i64 0, .int .i64 0, .bool false] 30))) := ((Up.refl W).alloc _).alloc _
  by_cases h1 : n < 32768
  · have e1 : (n : Int) < 32768 := by omega
    go_enter Tryd.func29, Tryd.ntmps29
    go_wp2_with fail
    refine bodyPost_ret (v := .tuple #[.agg _, .int .i64 41]) (results_row_tmp Tryd.results29 _ _ _ 30 _ (0, 0) _ rfl HB.out Tryd.underlying30 rfl (by kernel_rfl)) rfl ?_
    exact ⟨rfl, HU.out⟩
  · have e1 : ¬ (n : Int) < 32768 := by omega
    have e2 : (2097152 : Int) < (n : Int) := by omega
    go_enter Tryd.func29, Tryd.ntmps29
    go_wp2_with fail
    refine bodyPost_ret (v := .tuple #[.agg _, .int .i64 41]) (results_row_tmp Tryd.results29 _ _ _ 30 _ (0, 0) _ rfl HB.out Tryd.underlying30 rfl (by kernel_rfl)) rfl ?_
    exact ⟨rfl, HU.out⟩
theorem rows_uniqB {r s : Rw} (hr : r ∈ rowsT) (hs : s ∈ rowsT) (e : r.kind = s.kind) : r = s := by
  have key : ∀ i : Fin 14, ∀ j : Fin 14, (rowsT[i.val]'(i.isLt)).kind = (rowsT[j.val]'(j.isLt)).kind → i = j := by decide
  obtain ⟨i, hi, rfl⟩ := List.mem_iff_getElem.1 hr
  obtain ⟨j, hj, rfl⟩ := List.mem_iff_getElem.1 hs
  have := key ⟨i, hi⟩ ⟨j, hj⟩ e
  injection this with this
  subst this
  rfl
theorem row_uniqB {k : Nat} {R S : Rw} {a b : Bool} (h : RowIs k R a) (h2 : RowIs k S b) : R = S ∧ a = b := by
  rcases h with ⟨rfl, h, hk⟩ | ⟨rfl, rfl, h⟩ <;> rcases h2 with ⟨rfl, h2, hk2⟩ | ⟨rfl, rfl, h2⟩
  · exact ⟨rows_uniqB h h2 (hk.trans hk2.symm), rfl⟩
  · exact absurd hk (h2 _ h)
  · exact absurd hk2 (h _ h2)
  · exact ⟨rfl, rfl⟩
theorem strF_zero (f : Nat → Int) : (⟨#[]⟩ : ByteArray) = strF f 308 0 := rfl
theorem strF_succ (f : Nat → Int) (o m : Nat) : strF f o (m + 1) = strF f o m ++ strF (fun _ => f (o + m)) 0 1 := by
  unfold strF
  rw [List.range_succ, List.map_append]
  unfold strOfNums
  rw [List.map_append]
  ext1
  simp
theorem one_by (w : World) (x : Int) : By (w.alloc (Obj.cells #[.int .u8 x] 5)) w.heap.size 1 (fun _ => x) := ⟨#[.int .u8 x], 5, heap_alloc_new w _, Nat.le_refl _, fun k hk => by
  obtain rfl : k = 0 := by omega
  rfl⟩
/-- the two blocks of Check: what it answers, and an empty header -/
structure Tw (W : World) (w : World) (rb nb : Nat) : Prop where
  up : Up W w
  r : w.heap[rb]? = some (.cells #[.string ⟨#[]⟩, .int .i64 0, .int .i64 0, .int .i64 0, .int .i64 0, .bool false] 30 (0, 0))
  n : w.heap[nb]? = some (.cells #[.string ⟨#[]⟩, .int .i64 0, .int .i64 0, .int .i64 0, .int .i64 0, .bool false] 30 (0, 0))
  l1 : W.heap.size ≤ rb
  l2 : W.heap.size ≤ nb
  ne : rb ≠ nb
theorem Tw.more {rb nb : Nat} (h : Tw W w rb nb) (u : Up w w') : Tw W w' rb nb := ⟨h.up.trans u, (u.block rb (heap_at h.r)).trans h.r, (u.block nb (heap_at h.n)).trans h.n, h.l1, h.l2, h.ne⟩
theorem Tw.fin {rb nb : Nat} {cs : Array Value} (h : Tw W w rb nb) : Up W (w.setRow rb cs) := Fr.up h.up h.l1 ((Fr.refl rb w).setRow)
set_option maxRecDepth 100000 in
set_option maxHeartbeats 2000000 in
theorem checkR_any {c : Nat} (h : By W g n f) (hn : 32768 ≤ n) (hn2 : n ≤ 2097152) (hc : n ≤ c) (hm : c ≤ 9223372036854775807) (h8 : ∀ k, 0 ≤ f k ∧ f k ≤ 255) : Calls Tryd.prog 29 #[.slice (some ⟨g, 0, none⟩) n c] W (CheckAns W f n) := by
  have e1 : ¬ (n : Int) < 32768 := by omega
  have e2 : ¬ (2097152 : Int) < (n : Int) := by omega
  have HB : Hid (∀ w, Up W w → By w g n f) := fun w u => h.up u
  have H8 : Hid (∀ k, 0 ≤ f k ∧ f k ≤ 255) := h8
  have HMk : Hid (∀ i, i < 48 → ∀ w, Calls Tryd.prog 54 #[.int .i64 ((i : Nat) : Int)] w fun e w' => e = .returned (.int .u8 (markF i)) ∧ w' = w) := fun i hi w => markR_any hi
  have HSu : Hid (∀ w, Up W w → Calls Tryd.prog 55 #[.slice (some ⟨g, 0, none⟩) n c] w fun e w' => e = .returned (.int .u8 ((231 - sig f 25) % 256)) ∧ w' = w) := fun w u => sumR_any (h.up u) (by omega) hc hm h8
  have HT : Hid (Tw W ((W.alloc (Obj.cells #[.string ⟨#[]⟩, .int .i64 0, .int .i64 0, .int .i64 0, .int .i64 0, .bool false] 30)).alloc (Obj.cells #[.string ⟨#[]⟩, .int .i64 0, .int .i64 0, .int .i64 0, .int .i64 0, .bool false] 30)) W.heap.size (W.heap.size + 1)) := ⟨((Up.refl W).alloc _).alloc _, (heap_two W _ _).trans (heap_alloc_new W _), by
    have h := heap_alloc_new (W.alloc (Obj.cells #[.string ⟨#[]⟩, .int .i64 0, .int .i64 0, .int .i64 0, .int .i64 0, .bool false] 30)) (Obj.cells #[.string ⟨#[]⟩, .int .i64 0, .int .i64 0, .int .i64 0, .int .i64 0, .bool false] 30)
    rw [alloc_size'] at h
    exact h, Nat.le_refl _, Nat.le_succ _, by omega⟩
  have HFi : Hid (∀ (mk : Bool) (x : Int) (e : Ending) (w' : World), MarkIs f mk → (∀ R b, RowIs (f 327).toNat R b → faultI mk f R b n = x) → x ≠ 0 → Up W w' → e = .returned (.tuple #[.agg #[.string ⟨#[]⟩, .int .i64 0, .int .i64 0, .int .i64 0, .int .i64 0, .bool false], .int .i64 x]) → CheckAns W f n e w') := fun mk x e w' h1 h2 h3 h4 h5 => by
    obtain ⟨R, b, hr⟩ : ∃ R b, RowIs (f 327).toNat R b := by
      by_cases hq : ∃ r ∈ rowsT, r.kind = (f 327).toNat
      · obtain ⟨r, h1, h2⟩ := hq
        exact ⟨r, true, Or.inl ⟨rfl, h1, h2⟩⟩
      · exact ⟨Rw.zero, false, Or.inr ⟨rfl, rfl, fun r hr e => hq ⟨r, hr, e⟩⟩⟩
    have := h2 R b hr
    exact ⟨R, b, mk, hr, h1, h4, Or.inl ⟨by rw [this]; exact h3, by rw [h5, this]; rfl⟩⟩
  clear h h8
  go_enter Tryd.func29, Tryd.ntmps29
  go_wp2_with fail
  generalize World.alloc _ _ = w1 at HT ⊢
  generalize W.heap.size + 1 = nb at HT ⊢
  generalize W.heap.size = rb at HT ⊢
  go_loopw [5] (fun I wr => ∃ k : Nat, k ≤ 48 ∧ I = .int .i64 (k : Int) ∧ Hid (Tw W wr rb nb ∧ ∀ i, i < k → f (260 + i) = markF i)) (fun I _ => 48 - (intOf I).toNat)
  case atStart => exact ⟨0, Nat.zero_le _, rfl, HT.out, fun i hi => by omega⟩
  case round =>
    clear HT
    obtain ⟨k, hk, rfl, HK⟩ := hrel
    by_cases hlt : k < 48
    · have e3 : (k : Int) < 48 := by omega
      have kc := (HB.out wr HK.out.1.up).cell (260 + k) (by omega)
      have HMi : Hid _ := HMk.out k hlt
      have hr8 := H8.out (260 + k)
      have m8 := markF_byte k
      by_cases hx : f (260 + k) = markF k
      · have HN : Hid (∀ i, i < k + 1 → f (260 + i) = markF i) := fun i hi => by
          by_cases e : i = k
          · subst e; exact hx
          · exact HK.out.2 i (by omega)
        have HT1 : Hid (Tw W wr rb nb) := HK.out.1
        rw [hx] at kc
        clear HK hx hr8
        generalize markF k = X at *
        go_wp2_with fail
        go_quiet ((go_at_call 54; exact Calls.quiet_of_same (HMi.out _)))
        have HT2 : Hid (Tw W (wr.drewN nq) rb nb) := HT1.out.more (Up.drewN _ _)
        clear HT1 kc
        go_wp2_with fail
        go_round
        case rel => exact ⟨k + 1, by omega, by go_num, HT2.out, HN.out⟩
        case measure => simp [intOf]; omega
      · have HN : Hid (f (260 + k) ≠ markF k) := hx
        have HT1 : Hid (Tw W wr rb nb) := HK.out.1
        have hne : ¬ f (260 + k) = markF k := hx
        clear hx HK
        generalize hX : markF k = X at *
        generalize hY : f (260 + k) = Y at *
        go_wp2_with fail
        go_quiet ((go_at_call 54; exact Calls.quiet_of_same (HMi.out _)))
        have HT2 : Hid (Tw W (wr.drewN nq) rb nb) := HT1.out.more (Up.drewN _ _)
        clear HT1 kc
        generalize World.drewN wr nq = wd at HT2 ⊢
        have kr := HT2.out.r
        have n0 : wd.cell? ⟨nb, 0, none⟩ = some (.string ⟨#[]⟩) := heap_cell HT2.out.n rfl
        have n1 : wd.cell? ⟨nb, 1, none⟩ = some (.int .i64 0) := heap_cell HT2.out.n rfl
        have n2 : wd.cell? ⟨nb, 2, none⟩ = some (.int .i64 0) := heap_cell HT2.out.n rfl
        have n3 : wd.cell? ⟨nb, 3, none⟩ = some (.int .i64 0) := heap_cell HT2.out.n rfl
        have n4 : wd.cell? ⟨nb, 4, none⟩ = some (.int .i64 0) := heap_cell HT2.out.n rfl
        have n5 : wd.cell? ⟨nb, 5, none⟩ = some (.bool false) := heap_cell HT2.out.n rfl
        clear kr
        go_wp2_with (refine wpList_store_rowTo rfl 30 _ _ rfl rfl rb #[.string ⟨#[]⟩, .int .i64 0, .int .i64 0, .int .i64 0, .int .i64 0, .bool false] rfl rfl 30 _ HT2.out.r (by kernel_rfl) rfl (by simp [Value.oneCell']) ?_)
        refine bodyPost_ret (v := .tuple #[.agg _, .int .i64 42]) (results_row_tmp Tryd.results29 _ _ _ 30 _ (0, 0) _ rfl (setRow_heap _ _ _ _ _ _ HT2.out.r) Tryd.underlying30 rfl (by kernel_rfl)) rfl ?_
        exact HFi.out false 42 _ _ (Or.inr ⟨rfl, k, hlt, by rw [hX, hY]; exact HN.out⟩) (fun R b _ => by unfold faultI; rw [if_pos rfl]) (by decide) (HT2.out.fin) rfl
    · have e3 : ¬ (k : Int) < 48 := by omega
      obtain rfl : k = 48 := by omega
      have HMK : Hid (MarkIs f true) := Or.inl ⟨rfl, HK.out.2⟩
      have HT1 : Hid (Tw W wr rb nb) := HK.out.1
      clear HK HMk
      go_wp2_with fail
      refine (HSu.out _ HT1.out.up).mono ?_
      rintro e w2 ⟨rfl, hw2⟩
      rw [← hw2] at HT1
      clear hw2 HSu
      generalize hSM : (231 - sig f 25) % 256 = SM
      have sm8 : 0 ≤ SM ∧ SM ≤ 255 := by omega
      have HSM : Hid ((231 - sig f 25) % 256 = SM) := hSM
      clear hSM
      obtain ⟨c7, hc7⟩ : ∃ c7 : Nat, f 327 = (c7 : Int) := Int.eq_ofNat_of_zero_le (H8.out 327).1
      obtain ⟨c8, hc8⟩ : ∃ c8 : Nat, f 328 = (c8 : Int) := Int.eq_ofNat_of_zero_le (H8.out 328).1
      obtain ⟨c9, hc9⟩ : ∃ c9 : Nat, f 329 = (c9 : Int) := Int.eq_ofNat_of_zero_le (H8.out 329).1
      have b7 : c7 ≤ 255 := by have := (H8.out 327).2; omega
      have b8 : c8 ≤ 255 := by have := (H8.out 328).2; omega
      have b9 : c9 ≤ 255 := by have := (H8.out 329).2; omega
      have HC : Hid (∀ w, Up W w → w.cell? ⟨g, 333, none⟩ = some (.int .u8 (f 333)) ∧ w.cell? ⟨g, 323, none⟩ = some (.int .u8 (f 323)) ∧ w.cell? ⟨g, 327, none⟩ = some (.int .u8 (c7 : Int)) ∧ w.cell? ⟨g, 328, none⟩ = some (.int .u8 (c8 : Int)) ∧ w.cell? ⟨g, 329, none⟩ = some (.int .u8 (c9 : Int))) := fun w u => ⟨(HB.out w u).cell 333 (by omega), (HB.out w u).cell 323 (by omega), by rw [← hc7]; exact (HB.out w u).cell 327 (by omega), by rw [← hc8]; exact (HB.out w u).cell 328 (by omega), by rw [← hc9]; exact (HB.out w u).cell 329 (by omega)⟩
      have H7 : Hid (f 327 = (c7 : Int) ∧ f 328 = (c8 : Int) ∧ f 329 = (c9 : Int)) := ⟨hc7, hc8, hc9⟩
      have HX : Hid (∀ R b, faultI true f R b n = if ¬ f 333 = SM then 43 else if f 323 = 192 then 44 else if b = false then 45 else if takesB R c8 n = false then 46 else if (c9 : Int) < (R.lo : Int) ∨ (R.hi : Int) < (c9 : Int) then 47 else 0) := fun R b => by
        unfold faultI
        rw [if_neg (by decide), HSM.out, hc8, hc9, Int.toNat_natCast]
      obtain ⟨k33, k23, k27, k28, k29⟩ := HC.out w2 HT1.out.up
      have r33 := H8.out 333
      have r23 := H8.out 323
      clear hc7 hc8 hc9 k28 k29
      generalize f 333 = x33 at *
      generalize f 323 = x23 at *
      by_cases h33 : ¬ x33 = SM
      · have HZ : Hid (∀ R b, RowIs (f 327).toNat R b → faultI true f R b n = 43) := fun R b _ => by rw [HX.out, if_pos h33]
        clear HX
        have kr := HT1.out.r
        have n0 : w2.cell? ⟨nb, 0, none⟩ = some (.string ⟨#[]⟩) := heap_cell HT1.out.n rfl
        have n1 : w2.cell? ⟨nb, 1, none⟩ = some (.int .i64 0) := heap_cell HT1.out.n rfl
        have n2 : w2.cell? ⟨nb, 2, none⟩ = some (.int .i64 0) := heap_cell HT1.out.n rfl
        have n3 : w2.cell? ⟨nb, 3, none⟩ = some (.int .i64 0) := heap_cell HT1.out.n rfl
        have n4 : w2.cell? ⟨nb, 4, none⟩ = some (.int .i64 0) := heap_cell HT1.out.n rfl
        have n5 : w2.cell? ⟨nb, 5, none⟩ = some (.bool false) := heap_cell HT1.out.n rfl
        clear kr
        go_wp2_with (refine wpList_store_rowTo rfl 30 _ _ rfl rfl rb #[.string ⟨#[]⟩, .int .i64 0, .int .i64 0, .int .i64 0, .int .i64 0, .bool false] rfl rfl 30 _ HT1.out.r (by kernel_rfl) rfl (by simp [Value.oneCell']) ?_)
        refine bodyPost_ret (v := .tuple #[.agg _, .int .i64 43]) (results_row_tmp Tryd.results29 _ _ _ 30 _ (0, 0) _ rfl (setRow_heap _ _ _ _ _ _ HT1.out.r) Tryd.underlying30 rfl (by kernel_rfl)) rfl ?_
        exact HFi.out true 43 _ _ HMK.out HZ.out (by decide) (HT1.out.fin) rfl
      have h33 : x33 = SM := Decidable.not_not.1 h33
      by_cases h23 : x23 = 192
      · have HZ : Hid (∀ R b, RowIs (f 327).toNat R b → faultI true f R b n = 44) := fun R b _ => by rw [HX.out, if_neg (by simp [h33]), if_pos h23]
        clear HX
        have kr := HT1.out.r
        have n0 : w2.cell? ⟨nb, 0, none⟩ = some (.string ⟨#[]⟩) := heap_cell HT1.out.n rfl
        have n1 : w2.cell? ⟨nb, 1, none⟩ = some (.int .i64 0) := heap_cell HT1.out.n rfl
        have n2 : w2.cell? ⟨nb, 2, none⟩ = some (.int .i64 0) := heap_cell HT1.out.n rfl
        have n3 : w2.cell? ⟨nb, 3, none⟩ = some (.int .i64 0) := heap_cell HT1.out.n rfl
        have n4 : w2.cell? ⟨nb, 4, none⟩ = some (.int .i64 0) := heap_cell HT1.out.n rfl
        have n5 : w2.cell? ⟨nb, 5, none⟩ = some (.bool false) := heap_cell HT1.out.n rfl
        clear kr
        go_wp2_with (refine wpList_store_rowTo rfl 30 _ _ rfl rfl rb #[.string ⟨#[]⟩, .int .i64 0, .int .i64 0, .int .i64 0, .int .i64 0, .bool false] rfl rfl 30 _ HT1.out.r (by kernel_rfl) rfl (by simp [Value.oneCell']) ?_)
        refine bodyPost_ret (v := .tuple #[.agg _, .int .i64 44]) (results_row_tmp Tryd.results29 _ _ _ 30 _ (0, 0) _ rfl (setRow_heap _ _ _ _ _ _ HT1.out.r) Tryd.underlying30 rfl (by kernel_rfl)) rfl ?_
        exact HFi.out true 44 _ _ HMK.out HZ.out (by decide) (HT1.out.fin) rfl
      have z23 : (x23 == 192) = false := by rw [beq_eq_false_iff_ne]; exact h23
      have HXk : Hid (∀ R b, faultI true f R b n = if b = false then 45 else if takesB R c8 n = false then 46 else if (c9 : Int) < (R.lo : Int) ∨ (R.hi : Int) < (c9 : Int) then 47 else 0) := fun R b => by rw [HX.out, if_neg (by simp [h33]), if_neg h23]
      clear HX
      have HKd : Hid (∀ w, Calls Tryd.prog 56 #[.int .i64 (c7 : Int)] w (KindAns w c7)) := fun w => kindR_any c7
      go_wp2_with fail
      refine (HKd.out _).mono ?_
      rintro e w3 ⟨u3, R, b, hr, hcs⟩
      have HT3 : Hid (Tw W w3 rb nb) := HT1.out.more u3
      have HRw : Hid (RowIs c7 R b) := hr
      clear u3 hr HT1 k33 k23 k27 HKd
      rcases hcs.symm with ⟨rfl, rfl⟩ | ⟨rfl, cb, rfl, hcd⟩
      · have HZ : Hid (∀ R b, RowIs (f 327).toNat R b → faultI true f R b n = 45) := fun R' b' h' => by
          rw [H7.out.1, Int.toNat_natCast] at h'
          obtain ⟨_, rfl⟩ := row_uniqB HRw.out h'
          rw [HXk.out, if_pos rfl]
        clear HXk
        have HT4 : Hid (Tw W (w3.alloc (Obj.cells #[.int .i64 0, .int .i64 0, .slice none 0 0, .bool false] 99)) rb nb) := HT3.out.more ((Up.refl w3).alloc _)
        have kr := HT4.out.r
        have n0 : (w3.alloc (Obj.cells #[.int .i64 0, .int .i64 0, .slice none 0 0, .bool false] 99)).cell? ⟨nb, 0, none⟩ = some (.string ⟨#[]⟩) := heap_cell HT4.out.n rfl
        have n1 : (w3.alloc (Obj.cells #[.int .i64 0, .int .i64 0, .slice none 0 0, .bool false] 99)).cell? ⟨nb, 1, none⟩ = some (.int .i64 0) := heap_cell HT4.out.n rfl
        have n2 : (w3.alloc (Obj.cells #[.int .i64 0, .int .i64 0, .slice none 0 0, .bool false] 99)).cell? ⟨nb, 2, none⟩ = some (.int .i64 0) := heap_cell HT4.out.n rfl
        have n3 : (w3.alloc (Obj.cells #[.int .i64 0, .int .i64 0, .slice none 0 0, .bool false] 99)).cell? ⟨nb, 3, none⟩ = some (.int .i64 0) := heap_cell HT4.out.n rfl
        have n4 : (w3.alloc (Obj.cells #[.int .i64 0, .int .i64 0, .slice none 0 0, .bool false] 99)).cell? ⟨nb, 4, none⟩ = some (.int .i64 0) := heap_cell HT4.out.n rfl
        have n5 : (w3.alloc (Obj.cells #[.int .i64 0, .int .i64 0, .slice none 0 0, .bool false] 99)).cell? ⟨nb, 5, none⟩ = some (.bool false) := heap_cell HT4.out.n rfl
        clear kr
        go_wp2_with (refine wpList_store_rowTo rfl 30 _ _ rfl rfl rb #[.string ⟨#[]⟩, .int .i64 0, .int .i64 0, .int .i64 0, .int .i64 0, .bool false] rfl rfl 30 _ HT4.out.r (by kernel_rfl) rfl (by simp [Value.oneCell']) ?_)
        refine bodyPost_ret (v := .tuple #[.agg _, .int .i64 45]) (results_row_tmp Tryd.results29 _ _ _ 30 _ (0, 0) _ rfl (setRow_heap _ _ _ _ _ _ HT4.out.r) Tryd.underlying30 rfl (by kernel_rfl)) rfl ?_
        exact HFi.out true 45 _ _ HMK.out HZ.out (by decide) (HT4.out.fin) rfl
      have HZ6 : Hid (takesB R c8 n = false → ∀ R b, RowIs (f 327).toNat R b → faultI true f R b n = 46) := fun ht R' b' h' => by
        rw [H7.out.1, Int.toNat_natCast] at h'
        obtain ⟨rfl, rfl⟩ := row_uniqB HRw.out h'
        rw [HXk.out, if_neg (by decide), if_pos ht]
      have HZ7 : Hid (takesB R c8 n = true → ((c9 : Int) < (R.lo : Int) ∨ (R.hi : Int) < (c9 : Int)) → ∀ R b, RowIs (f 327).toNat R b → faultI true f R b n = 47) := fun ht hb R' b' h' => by
        rw [H7.out.1, Int.toNat_natCast] at h'
        obtain ⟨rfl, rfl⟩ := row_uniqB HRw.out h'
        rw [HXk.out, if_neg (by decide), if_neg (by rw [ht]; decide), if_pos hb]
      have HZ0 : Hid (takesB R c8 n = true → ¬ ((c9 : Int) < (R.lo : Int) ∨ (R.hi : Int) < (c9 : Int)) → faultI true f R true n = 0) := fun ht hb => by
        rw [HXk.out, if_neg (by decide), if_neg (by rw [ht]; decide), if_neg hb]
      have hRb : R.mapper ≤ 5 ∧ R.banks ≤ 128 ∧ R.lo ≤ 5 ∧ R.hi ≤ 5 := by
        rcases HRw.out with ⟨_, hr, _⟩ | ⟨hr, _⟩
        · exact (rowsT_byte R hr).2
        · cases hr
      clear HXk
      obtain ⟨kd, mp, bk, lo, hi', bt⟩ := R
      obtain ⟨hb1, hb2, hb3, hb4⟩ := hRb
      have hb1 : mp ≤ 5 := hb1
      have hb2 : bk ≤ 128 := hb2
      have hb3 : lo ≤ 5 := hb3
      have hb4 : hi' ≤ 5 := hb4
      obtain ⟨LL, hLL⟩ : ∃ L, L = hi' + 1 - lo := ⟨_, rfl⟩
      have HLL : Hid (LL = hi' + 1 - lo) := hLL
      have hcd : ∀ k, k < LL → w3.cell? ⟨cb, k, none⟩ = some (.int .i64 ((lo + k : Nat) : Int)) := by rw [hLL]; exact hcd
      have HCd : Hid (∀ k, k < LL → w3.cell? ⟨cb, k, none⟩ = some (.int .i64 ((lo + k : Nat) : Int))) := hcd
      dsimp only
      rw [← hLL]
      clear hcd hLL
      go_upto_block 2 with fail
      have HT4 : Hid (Tw W (w3.alloc (Obj.cells #[.int .i64 (mp : Int), .int .i64 (bk : Int), .slice (some ⟨cb, 0, none⟩) LL LL, .bool bt] 99)) rb nb) := HT3.out.more ((Up.refl w3).alloc _)
      have HK4 : Hid ((w3.alloc (Obj.cells #[.int .i64 (mp : Int), .int .i64 (bk : Int), .slice (some ⟨cb, 0, none⟩) LL LL, .bool bt] 99)).heap[w3.heap.size]? = some (.cells #[.int .i64 (mp : Int), .int .i64 (bk : Int), .slice (some ⟨cb, 0, none⟩) LL LL, .bool bt] 99 (0, 0))) := heap_alloc_new w3 _
      have HC4 : Hid (∀ k, k < LL → (w3.alloc (Obj.cells #[.int .i64 (mp : Int), .int .i64 (bk : Int), .slice (some ⟨cb, 0, none⟩) LL LL, .bool bt] 99)).cell? ⟨cb, k, none⟩ = some (.int .i64 ((lo + k : Nat) : Int))) := fun k hk => cell_up ((Up.refl w3).alloc _) (HCd.out k hk)
      clear HT3 HCd
      generalize World.alloc w3 _ = w4 at HT4 HK4 HC4 ⊢
      generalize w3.heap.size = kb at HK4 ⊢
      obtain ⟨_, _, _, k28, k29⟩ := HC.out w4 HT4.out.up
      clear k29
      go_cut [10] (fun B wx => wx = w4 ∧ ∃ b : Nat, B = .int .i64 (b : Int) ∧ b ≤ 256 ∧ Hid (c8 ≤ 6 → b = 2 * 2 ^ c8))
      case first =>
        go_wp2_with fail
        go_loopw [10, 11] (fun B I wr => wr = w4 ∧ ∃ (b i : Nat), I = .int .i64 (i : Int) ∧ B = .int .i64 (b : Int) ∧ i ≤ c8 ∧ i ≤ 7 ∧ b ≤ 256 ∧ Hid (b = 2 * 2 ^ i)) (fun _ I _ => 7 - (intOf I).toNat)
        case atStart => exact ⟨rfl, 2, 0, rfl, rfl, Nat.zero_le _, Nat.zero_le _, by decide, rfl⟩
        case round =>
          obtain ⟨hwr, b, i, rfl, rfl, i1, i2, i3, Hb⟩ := hrel
          subst hwr
          by_cases hlt : i < c8 ∧ i < 7
          · have e4 : (i : Int) < (c8 : Int) := by omega
            have e5 : (i : Int) < 7 := by omega
            have HN : Hid (2 * b = 2 * 2 ^ (i + 1) ∧ 2 * b ≤ 256) := by
              have h := Hb.out
              refine ⟨by rw [h, Nat.pow_succ, Nat.mul_comm (2 ^ i) 2], ?_⟩
              have : 2 ^ i ≤ 2 ^ 6 := Nat.pow_le_pow_right (by decide) (by omega)
              omega
            clear Hb
            go_wp2_with fail
            go_round
            case rel => exact ⟨by trivial, 2 * b, i + 1, by go_num, by go_num, by omega, by omega, HN.out.2, HN.out.1⟩
            case measure => simp [intOf]; omega
          · have HN : Hid (c8 ≤ 6 → b = 2 * 2 ^ c8) := fun h6 => by rw [Hb.out, show i = c8 by omega]
            have hz : ¬ (i : Int) < (c8 : Int) ∨ ((i : Int) < (c8 : Int) ∧ ¬ (i : Int) < 7) := by omega
            clear Hb hlt
            rcases hz with hz | ⟨hz, hz2⟩
            · go_wp2_with fail
              go_meet
              exact ⟨rfl, b, rfl, i3, HN⟩
            · go_wp2_with fail
              go_meet
              exact ⟨rfl, b, rfl, i3, HN⟩
      case rest =>
      obtain ⟨hwx, b, rfl, i3, HB8⟩ := hcut
      rw [hwx]
      clear hwx
      have hTk : takesB ⟨kd, mp, bk, lo, hi', bt⟩ c8 n = (decide (c8 ≤ 6) && decide (b ≤ bk) && decide (b * 16384 = n)) := by
        unfold takesB
        by_cases h6 : c8 ≤ 6
        · rw [HB8.out h6]
        · rw [decide_eq_false h6]; rfl
      have HTk : Hid _ := hTk
      clear hTk
      generalize takesB ⟨kd, mp, bk, lo, hi', bt⟩ c8 n = T at *
      have kk0 : w4.cell? ⟨kb, 1, none⟩ = some (.int .i64 (bk : Int)) := heap_cell HK4.out rfl
      go_upto_region 23 with fail
      go_cut [95] (fun c wx => wx = w4 ∧ c = .bool (!T))
      case first =>
        by_cases h6 : ¬ c8 ≤ 6
        · have e6 : (6 : Int) < (c8 : Int) := by omega
          have ht : T = false := by rw [HTk.out, decide_eq_false h6]; rfl
          clear HTk
          go_wp2_with fail
          go_meet
          exact ⟨rfl, by rw [ht]; first | rfl | (simp; done)⟩
        have e6 : ¬ (6 : Int) < (c8 : Int) := by omega
        by_cases h7 : ¬ b ≤ bk
        · have e7 : (bk : Int) < (b : Int) := by omega
          have ht : T = false := by rw [HTk.out, decide_eq_false h7]; simp
          clear HTk
          go_wp2_with fail
          go_meet
          exact ⟨rfl, by rw [ht]; first | rfl | (simp; done)⟩
        have e7 : ¬ (bk : Int) < (b : Int) := by omega
        by_cases h9 : ¬ b * 16384 = n
        · have z9 : ((n : Int) != 16384 * (b : Int)) = true := by rw [bne_iff_ne]; omega
          have ht : T = false := by rw [HTk.out, decide_eq_false h9]; simp
          clear HTk
          go_wp2_with fail
          go_meet
          exact ⟨rfl, by rw [ht]; first | rfl | (simp; done)⟩
        have z9 : ((n : Int) != 16384 * (b : Int)) = false := by rw [bne_eq_false_iff_eq]; omega
        have ht : T = true := by rw [HTk.out, decide_eq_true (Decidable.not_not.1 h6), decide_eq_true (Decidable.not_not.1 h7), decide_eq_true (Decidable.not_not.1 h9)]; rfl
        clear HTk h9
        go_wp2_with fail
        go_meet
        exact ⟨rfl, by rw [ht]; first | rfl | (simp; done)⟩
      case rest =>
      obtain ⟨hwx, rfl⟩ := hcut
      rw [hwx]
      clear hwx
      cases T with
      | false =>
        have kr := HT4.out.r
        have n0 : w4.cell? ⟨nb, 0, none⟩ = some (.string ⟨#[]⟩) := heap_cell HT4.out.n rfl
        have n1 : w4.cell? ⟨nb, 1, none⟩ = some (.int .i64 0) := heap_cell HT4.out.n rfl
        have n2 : w4.cell? ⟨nb, 2, none⟩ = some (.int .i64 0) := heap_cell HT4.out.n rfl
        have n3 : w4.cell? ⟨nb, 3, none⟩ = some (.int .i64 0) := heap_cell HT4.out.n rfl
        have n4 : w4.cell? ⟨nb, 4, none⟩ = some (.int .i64 0) := heap_cell HT4.out.n rfl
        have n5 : w4.cell? ⟨nb, 5, none⟩ = some (.bool false) := heap_cell HT4.out.n rfl
        clear kr
        go_wp2_with (refine wpList_store_rowTo rfl 30 _ _ rfl rfl rb #[.string ⟨#[]⟩, .int .i64 0, .int .i64 0, .int .i64 0, .int .i64 0, .bool false] rfl rfl 30 _ HT4.out.r (by kernel_rfl) rfl (by simp [Value.oneCell']) ?_)
        refine bodyPost_ret (v := .tuple #[.agg _, .int .i64 46]) (results_row_tmp Tryd.results29 _ _ _ 30 _ (0, 0) _ rfl (setRow_heap _ _ _ _ _ _ HT4.out.r) Tryd.underlying30 rfl (by kernel_rfl)) rfl ?_
        exact HFi.out true 46 _ _ HMK.out (HZ6.out (by first | rfl | trivial)) (by decide) (HT4.out.fin) rfl
      | true =>
        have h6 : c8 ≤ 6 := by
          by_cases h6 : c8 ≤ 6
          · exact h6
          · have := HTk.out
            rw [decide_eq_false h6] at this
            cases this
        have HB9 : Hid (b = 2 * 2 ^ c8) := HB8.out h6
        have HZ7b : Hid (((c9 : Int) < (lo : Int) ∨ (hi' : Int) < (c9 : Int)) → ∀ R b, RowIs (f 327).toNat R b → faultI true f R b n = 47) := HZ7.out (by first | rfl | trivial)
        have HZ0b : Hid (¬ ((c9 : Int) < (lo : Int) ∨ (hi' : Int) < (c9 : Int)) → faultI true f ⟨kd, mp, bk, lo, hi', bt⟩ true n = 0) := HZ0.out (by first | rfl | trivial)
        clear HZ6 HZ7 HZ0 HB8 HTk k28
        obtain ⟨_, _, _, _, k29⟩ := HC.out w4 HT4.out.up
        have kk1 : w4.cell? ⟨kb, 2, none⟩ = some (.slice (some ⟨cb, 0, none⟩) LL LL) := heap_cell HK4.out rfl
        have hLL7 : LL ≤ 6 := by have := HLL.out; omega
        go_upto_block 4 with fail
        go_cut [13] (fun B wx => wx = w4 ∧ B = .bool (decide (lo ≤ c9 ∧ c9 ≤ hi')))
        case first =>
          go_wp2_with fail
          go_loopw [13, 14] (fun B I wr => wr = w4 ∧ ∃ (i : Nat) (t : Bool), I = .int .i64 (i : Int) ∧ B = .bool t ∧ i ≤ LL ∧ Hid (t = decide (lo ≤ c9 ∧ c9 < lo + i))) (fun _ I _ => LL - (intOf I).toNat)
          case atStart => exact ⟨rfl, 0, false, rfl, rfl, Nat.zero_le _, (decide_eq_false (by omega)).symm⟩
          case round =>
            obtain ⟨hwr, i, t, rfl, rfl, i1, Ht⟩ := hrel
            subst hwr
            by_cases hlt : i < LL
            · have e5 : (i : Int) < (LL : Int) := by omega
              have kq := HC4.out i hlt
              cases t with
              | true =>
                have HN : Hid (true = decide (lo ≤ c9 ∧ c9 < lo + (i + 1))) := by
                  have h := Ht.out
                  exact (decide_eq_true (by have := of_decide_eq_true h.symm; omega)).symm
                clear Ht
                go_wp2_with fail
                go_round
                case rel => exact ⟨by trivial, i + 1, true, by go_num, by first | rfl | (simp; done), by omega, HN⟩
                case measure => simp [intOf]; omega
              | false =>
                obtain ⟨t2, ht2⟩ : ∃ t2, (((lo + i : Nat) : Int) == (c9 : Int)) = t2 := ⟨_, rfl⟩
                have hN : t2 = decide (lo ≤ c9 ∧ c9 < lo + (i + 1)) := by
                  have h := of_decide_eq_false Ht.out.symm
                  rw [← ht2]
                  by_cases hq : lo + i = c9
                  · have hp : lo ≤ c9 ∧ c9 < lo + (i + 1) := by omega
                    rw [decide_eq_true hp, beq_iff_eq]; omega
                  · have hp : ¬ (lo ≤ c9 ∧ c9 < lo + (i + 1)) := by omega
                    rw [decide_eq_false hp, beq_eq_false_iff_ne]; omega
                have HN : Hid _ := hN
                clear Ht hN
                generalize ((lo + i : Nat) : Int) = QQ at kq ht2
                go_wp2_with fail
                go_round
                case rel => exact ⟨by trivial, i + 1, t2, by go_num, by first | rfl | (simp; done) | (rw [ht2]), by omega, HN⟩
                case measure => simp [intOf]; omega
            · have e5 : ¬ (i : Int) < (LL : Int) := by omega
              have hN : t = decide (lo ≤ c9 ∧ c9 ≤ hi') := by
                have h := HLL.out
                rw [Ht.out]
                congr 1
                apply propext
                omega
              have HN : Hid _ := hN
              clear Ht hN
              go_wp2_with fail
              go_meet
              exact ⟨rfl, by rw [HN.out]⟩
        case rest =>
        obtain ⟨hwx, rfl⟩ := hcut
        rw [hwx]
        clear hwx
        by_cases hft : ¬ (lo ≤ c9 ∧ c9 ≤ hi')
        · have z5 : decide (lo ≤ c9 ∧ c9 ≤ hi') = false := decide_eq_false hft
          rw [z5]
          have hbb : (c9 : Int) < (lo : Int) ∨ (hi' : Int) < (c9 : Int) := by omega
          have kr := HT4.out.r
          have n0 : w4.cell? ⟨nb, 0, none⟩ = some (.string ⟨#[]⟩) := heap_cell HT4.out.n rfl
          have n1 : w4.cell? ⟨nb, 1, none⟩ = some (.int .i64 0) := heap_cell HT4.out.n rfl
          have n2 : w4.cell? ⟨nb, 2, none⟩ = some (.int .i64 0) := heap_cell HT4.out.n rfl
          have n3 : w4.cell? ⟨nb, 3, none⟩ = some (.int .i64 0) := heap_cell HT4.out.n rfl
          have n4 : w4.cell? ⟨nb, 4, none⟩ = some (.int .i64 0) := heap_cell HT4.out.n rfl
          have n5 : w4.cell? ⟨nb, 5, none⟩ = some (.bool false) := heap_cell HT4.out.n rfl
          clear kr
          go_wp2_with (refine wpList_store_rowTo rfl 30 _ _ rfl rfl rb #[.string ⟨#[]⟩, .int .i64 0, .int .i64 0, .int .i64 0, .int .i64 0, .bool false] rfl rfl 30 _ HT4.out.r (by kernel_rfl) rfl (by simp [Value.oneCell']) ?_)
          refine bodyPost_ret (v := .tuple #[.agg _, .int .i64 47]) (results_row_tmp Tryd.results29 _ _ _ 30 _ (0, 0) _ rfl (setRow_heap _ _ _ _ _ _ HT4.out.r) Tryd.underlying30 rfl (by kernel_rfl)) rfl ?_
          exact HFi.out true 47 _ _ HMK.out (HZ7b.out hbb) (by decide) (HT4.out.fin) rfl
        have z5 : decide (lo ≤ c9 ∧ c9 ≤ hi') = true := decide_eq_true (Decidable.not_not.1 hft)
        rw [z5]
        have HF0 : Hid (faultI true f ⟨kd, mp, bk, lo, hi', bt⟩ true n = 0) := HZ0b.out (by omega)
        have c95 : c9 ≤ 5 := by omega
        clear z5 hft HZ7b HZ0b
        go_upto_block 6 with fail
        have HRa : Hid (∀ w, Calls Tryd.prog 57 #[.int .i64 (c9 : Int)] w fun e w' => e = .returned (.int .i64 ((([0, 0, 8192, 32768, 131072, 65536] : List Nat).getD c9 0 : Nat) : Int)) ∧ w' = w) := fun w => ramR_any (by omega)
        go_cut [15] (fun T wx => ∃ m, T = .string (strF f 308 m) ∧ Hid (TitleIs f m ∧ Up w4 wx))
        case first =>
          go_wp2_with fail
          go_loopw [15, 16] (fun T I wr => ∃ (m : Nat) (tt : ByteArray), I = .int .i64 ((308 + m : Nat) : Int) ∧ T = .string tt ∧ m ≤ 15 ∧ Hid (Up w4 wr ∧ tt = strF f 308 m ∧ ∀ j, j < m → f (308 + j) ≠ 0)) (fun _ I _ => 400 - (intOf I).toNat)
          case atStart => exact ⟨0, ⟨#[]⟩, rfl, rfl, Nat.zero_le _, Up.refl _, strF_zero f, fun j hj => by omega⟩
          case round =>
            obtain ⟨m, tt, rfl, rfl, m15, HM⟩ := hrel
            by_cases hlt : m < 15 ∧ f (308 + m) ≠ 0
            · have e5 : ((308 + m : Nat) : Int) ≤ 322 := by omega
              have kq := ((HB.out w4 HT4.out.up).up HM.out.1).cell (308 + m) (by omega)
              have x8 := H8.out (308 + m)
              have zz : (f (308 + m) != 0) = true := by rw [bne_iff_ne]; exact hlt.2
              have HN : Hid (∀ j, j < m + 1 → f (308 + j) ≠ 0) := fun j hj => by
                by_cases e : j = m
                · subst e; exact hlt.2
                · exact HM.out.2.2 j (by omega)
              have hcv := (one_by wr (f (308 + m))).conv (o := 0) (m := 1) (c := 1) (by decide)
              have HSt : Hid (strF f 308 (m + 1) = strF f 308 m ++ strF (fun _ => f (308 + m)) 0 1) := strF_succ f 308 m
              have HU2 : Hid (Up w4 (wr.alloc (Obj.cells #[.int .u8 (f (308 + m))] 5))) := HM.out.1.alloc _
              have HTe : Hid (tt = strF f 308 m) := HM.out.2.1
              have ts1 : tt.size ≤ 15 := by rw [HTe.out, strF_size]; omega
              have ts2 : (strF (fun _ => f (308 + m)) 0 1).size = 1 := strF_size _ _ _
              generalize strF (fun _ => f (308 + m)) 0 1 = S1 at *
              generalize f (308 + m) = X at *
              go_wp2_with fail
              refine ⟨⟨m + 1, _, by go_num, rfl, by omega, HU2.out, by rw [HSt.out, HTe.out], HN.out⟩, ?_⟩
              simp [intOf]; omega
            · have HTi : Hid (TitleIs f m ∧ Up w4 wr) := ⟨⟨m15, HM.out.2.2, fun h => by
                by_cases h0 : f (308 + m) = 0
                · exact h0
                · exact absurd ⟨h, h0⟩ hlt⟩, HM.out.1⟩
              have HTe : Hid (tt = strF f 308 m) := HM.out.2.1
              have kq := ((HB.out w4 HT4.out.up).up HM.out.1).cell (308 + m) (by omega)
              have hz : ¬ ((308 + m : Nat) : Int) ≤ 322 ∨ (((308 + m : Nat) : Int) ≤ 322 ∧ f (308 + m) = 0) := by
                by_cases hm : m < 15
                · right
                  refine ⟨by omega, ?_⟩
                  by_cases h0 : f (308 + m) = 0
                  · exact h0
                  · exact absurd ⟨hm, h0⟩ hlt
                · left; omega
              clear hlt HM
              rcases hz with hz | ⟨hz, hz2⟩
              · go_wp2_with fail
                go_meet
                exact ⟨m, by rw [HTe.out], HTi⟩
              · have zz : (f (308 + m) != 0) = false := by rw [bne_eq_false_iff_eq]; exact hz2
                generalize f (308 + m) = X at *
                clear hz2
                go_wp2_with fail
                go_meet
                exact ⟨m, by rw [HTe.out], HTi⟩
        case rest =>
        obtain ⟨m, rfl, HTi⟩ := hcut
        have HT5 : Hid (Tw W wc rb nb) := HT4.out.more HTi.out.2
        have HK5 : Hid (wc.heap[kb]? = some (.cells #[.int .i64 (mp : Int), .int .i64 (bk : Int), .slice (some ⟨cb, 0, none⟩) LL LL, .bool bt] 99 (0, 0))) := (HTi.out.2.block kb (heap_at HK4.out)).trans HK4.out
        have HTj : Hid (TitleIs f m) := HTi.out.1
        have kk0 : wc.cell? ⟨kb, 0, none⟩ = some (.int .i64 (mp : Int)) := heap_cell HK5.out rfl
        have kk3 : wc.cell? ⟨kb, 3, none⟩ = some (.bool bt) := heap_cell HK5.out rfl
        clear HTi HT4 HK4 kk1 HC4 k29
        generalize hSt : strF f 308 m = ST
        have HSt : Hid (strF f 308 m = ST) := hSt
        clear hSt
        obtain ⟨RN, hRN⟩ : ∃ r : Nat, r = ([0, 0, 8192, 32768, 131072, 65536] : List Nat).getD c9 0 := ⟨_, rfl⟩
        have HRN : Hid (RN = ([0, 0, 8192, 32768, 131072, 65536] : List Nat).getD c9 0) := hRN
        rw [← hRN] at HRa
        clear hRN
        go_wp2_with fail
        refine (HRa.out _).mono ?_
        rintro e w6 ⟨rfl, hw6⟩
        rw [← hw6] at HT5 HK5 kk0 kk3
        clear hw6 HRa
        have HFin : Hid (∀ sz : Nat, sz = ramN ⟨kd, mp, bk, lo, hi', bt⟩ c9 → ∀ w', Up W w' → CheckAns W f n (.returned (.tuple #[.agg #[.string ST, .int .i64 (c7 : Int), .int .i64 (mp : Int), .int .i64 (b : Int), .int .i64 (sz : Int), .bool bt], .int .i64 0])) w') := fun sz hsz w' u => by
          obtain ⟨a7, a8, a9⟩ := H7.out
          have hkd : kd = c7 := by
            rcases HRw.out with ⟨_, _, hr⟩ | ⟨hr, _⟩
            · exact hr
            · cases hr
          refine ⟨⟨kd, mp, bk, lo, hi', bt⟩, true, true, by rw [a7, Int.toNat_natCast]; exact HRw.out, HMK.out, u, Or.inr ⟨HF0.out, m, HTj.out, ?_⟩⟩
          rw [HSt.out, a8, a9, Int.toNat_natCast, Int.toNat_natCast, HB9.out, hsz, ← hkd]
          rfl
        have hRM : ramN ⟨kd, mp, bk, lo, hi', bt⟩ c9 = if mp = 2 then 512 else RN := by rw [HRN.out]; rfl
        have HRM : Hid _ := hRM
        clear hRM
        have kr := HT5.out.r
        clear kr
        by_cases hm2 : mp = 2
        · have z2 : ((mp : Int) == 2) = true := by rw [beq_iff_eq]; omega
          have HFn : Hid _ := HFin.out 512 (by rw [HRM.out, if_pos hm2])
          clear hm2 HFin
          go_wp2_with (refine wpList_store_rowTo rfl 30 _ _ rfl rfl rb #[.string ST, .int .i64 (c7 : Int), .int .i64 (mp : Int), .int .i64 (b : Int), .int .i64 512, .bool bt] rfl rfl 30 _ HT5.out.r (by kernel_rfl) rfl (by simp [Value.oneCell']) ?_)
          refine bodyPost_ret (v := .tuple #[.agg _, .int .i64 0]) (results_row_tmp Tryd.results29 _ _ _ 30 _ (0, 0) _ rfl (setRow_heap _ _ _ _ _ _ HT5.out.r) Tryd.underlying30 rfl (by kernel_rfl)) rfl ?_
          exact HFn.out _ HT5.out.fin
        · have z2 : ((mp : Int) == 2) = false := by rw [beq_eq_false_iff_ne]; omega
          have HFn : Hid _ := HFin.out RN (by rw [HRM.out, if_neg hm2])
          clear hm2 HFin
          go_wp2_with (refine wpList_store_rowTo rfl 30 _ _ rfl rfl rb #[.string ST, .int .i64 (c7 : Int), .int .i64 (mp : Int), .int .i64 (b : Int), .int .i64 (RN : Int), .bool bt] rfl rfl 30 _ HT5.out.r (by kernel_rfl) rfl (by simp [Value.oneCell']) ?_)
          refine bodyPost_ret (v := .tuple #[.agg _, .int .i64 0]) (results_row_tmp Tryd.results29 _ _ _ 30 _ (0, 0) _ rfl (setRow_heap _ _ _ _ _ _ HT5.out.r) Tryd.underlying30 rfl (by kernel_rfl)) rfl ?_
          exact HFn.out _ HT5.out.fin
end Go.Proofs.YtojlappgmckokaaDoor
