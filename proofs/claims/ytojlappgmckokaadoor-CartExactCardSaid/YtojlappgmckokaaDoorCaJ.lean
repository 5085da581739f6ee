/- Cart: Check. -/
import Derived.Test.YtojlappgmckokaaDoorCaI
namespace Go.Proofs.YtojlappgmckokaaDoor
open Go.Shelf Go.RowKit
set_option linter.unusedVariables false
set_option linter.unusedSimpArgs false
variable {w w' W : World} {g n : Nat} {f : Nat → Int}
theorem wrapIn (n : Int) (h : -9223372036854775808 ≤ n ∧ n ≤ 9223372036854775807) : IntKind.i64.wrap n = n := by
  rw [IntKind.wrap_i64]
  omega
theorem putL_full {cs : Array Value} {l : List Value} (h : l.length = cs.size) : putL cs 0 l = l.toArray := by
  refine Array.ext_getElem? fun k => ?_
  rw [putL_at _ _ _ _ (by omega), Nat.zero_add, Nat.sub_zero]
  by_cases hk : k < l.length
  · rw [if_pos ⟨Nat.zero_le _, hk⟩, List.getElem?_toArray]
  · rw [if_neg (fun h => hk h.2), Array.getElem?_eq_none (by omega), Array.getElem?_eq_none (by simpa using hk)]
theorem setCells_full {b : Nat} {cs : Array Value} {ty : TypeId} {l : List Value} (h : w.heap[b]? = some (.cells cs ty (0, 0))) (hl : l.length = cs.size) : (w.setCells b 0 l).heap[b]? = some (.cells l.toArray ty (0, 0)) := by
  rw [heap_setCells_same b ty l 0 cs w h, putL_full hl]
theorem there_heap {b o m : Nat} {cs : Array Value} {ty : TypeId} (h : w.heap[b]? = some (.cells cs ty (0, 0))) (hm : o + m ≤ cs.size) : w.there b o m := fun k hk => ⟨by rw [heap_cell h (Array.getElem?_eq_getElem (by omega))]; rfl, heap_fz h⟩
def zHead : Array Value := #[.string ⟨#[]⟩, .int .i64 0, .int .i64 0, .int .i64 0, .int .i64 0, .bool false]
def headC (t : ByteArray) (R : Rw) (c8 c9 : Nat) : Array Value := #[.string t, .int .i64 (R.kind : Int), .int .i64 (R.mapper : Int), .int .i64 ((2 * 2 ^ c8 : Nat) : Int), .int .i64 (ramN R c9 : Nat), .bool R.bat]
def CheckAns (W : World) (f : Nat → Int) (n : Nat) (e : Ending) (w' : World) : Prop := ∃ R b mk, RowIs (f 327).toNat R b ∧ MarkIs f mk ∧ Up W w' ∧ ((faultI mk f R b n ≠ 0 ∧ e = .returned (.tuple #[.agg zHead, .int .i64 (faultI mk f R b n)])) ∨ (faultI mk f R b n = 0 ∧ ∃ m, TitleIs f m ∧ e = .returned (.tuple #[.agg (headC (strF f 308 m) R (f 328).toNat (f 329).toNat), .int .i64 0])))
set_option maxRecDepth 100000 in
set_option maxHeartbeats 2000000 in
theorem check_short {c : Nat} {a : Option Addr} (hc : n ≤ c) (hm : c ≤ 9223372036854775807) (h : n < 32768 ∨ 2097152 < n) : Calls Tryd.prog 13 #[.slice a n c] W fun e w' => e = .returned (.tuple #[.agg zHead, .int .i64 41]) ∧ Up W w' := by
  have HB : Hid ((W.alloc (.cells #[.string ⟨#[]⟩, .int .i64 0, .int .i64 0, .int .i64 0, .int .i64 0, .bool false] 30)).heap[W.heap.size]? = some (.cells #[.string ⟨#[]⟩, .int .i64 0, .int .i64 0, .int .i64 0, .int .i64 0, .bool false] 30 (0, 0))) := heap_alloc_new W _
  have HU : Hid (∀ w', Fr W.heap.size (W.alloc (.cells #[.string ⟨#[]⟩, .int .i64 0, .int .i64 0, .int .i64 0, .int .i64 0, .bool false] 30)) w' → Up W w') := fun w' fr => Fr.up ((Up.refl W).alloc _) (Nat.le_refl _) fr
  by_cases h1 : n < 32768
  · have e1 : (n : Int) < 32768 := by omega
    go_enter Tryd.func13, Tryd.ntmps13
    go_wp2_with (refine wpList_store_rowTo rfl 30 _ _ rfl rfl W.heap.size #[.string ⟨#[]⟩, .int .i64 0, .int .i64 0, .int .i64 0, .int .i64 0, .bool false] rfl rfl 30 _ HB.out (by kernel_rfl) rfl (by simp [Value.oneCell']) ?_)
    refine bodyPost_ret (v := .tuple #[.agg _, .int .i64 41]) (results_row_tmp Tryd.results13 _ _ _ 30 _ (0, 0) _ rfl (setRow_heap _ _ _ _ _ _ HB.out) Tryd.underlying30 rfl (by kernel_rfl)) rfl ?_
    exact ⟨rfl, HU.out _ ((Fr.refl _ _).setRow)⟩
  · have e1 : ¬ (n : Int) < 32768 := by omega
    have e2 : (2097152 : Int) < (n : Int) := by omega
    go_enter Tryd.func13, Tryd.ntmps13
    go_wp2_with (refine wpList_store_rowTo rfl 30 _ _ rfl rfl W.heap.size #[.string ⟨#[]⟩, .int .i64 0, .int .i64 0, .int .i64 0, .int .i64 0, .bool false] rfl rfl 30 _ HB.out (by kernel_rfl) rfl (by simp [Value.oneCell']) ?_)
    refine bodyPost_ret (v := .tuple #[.agg _, .int .i64 41]) (results_row_tmp Tryd.results13 _ _ _ 30 _ (0, 0) _ rfl (setRow_heap _ _ _ _ _ _ HB.out) Tryd.underlying30 rfl (by kernel_rfl)) rfl ?_
    exact ⟨rfl, HU.out _ ((Fr.refl _ _).setRow)⟩
set_option maxRecDepth 100000 in
set_option maxHeartbeats 2000000 in
theorem check_any {c : Nat} (hT : Tb W) (h : By W g n f) (hn : 32768 ≤ n) (hn2 : n ≤ 2097152) (hc : n ≤ c) (hm : c ≤ 9223372036854775807) (h8 : ∀ k, 0 ≤ f k ∧ f k ≤ 255) : Calls Tryd.prog 13 #[.slice (some ⟨g, 0, none⟩) n c] W (CheckAns W f n) := by
  obtain ⟨c7, hc7⟩ : ∃ c7 : Nat, f 327 = (c7 : Int) := Int.eq_ofNat_of_zero_le (h8 327).1
  obtain ⟨c8, hc8⟩ : ∃ c8 : Nat, f 328 = (c8 : Int) := Int.eq_ofNat_of_zero_le (h8 328).1
  obtain ⟨c9, hc9⟩ : ∃ c9 : Nat, f 329 = (c9 : Int) := Int.eq_ofNat_of_zero_le (h8 329).1
  have b7 : c7 ≤ 255 := by have := (h8 327).2; omega
  have HRO : Hid (∀ w, Up W w → Calls Tryd.prog 32 #[.int .u8 (c7 : Int)] w (RowAns w c7)) := fun w u => rowOf_any (hT.up u) b7
  have HFa : Hid (∀ w R b, Up W w → RowIs c7 R b → Calls Tryd.prog 33 #[.slice (some ⟨g, 0, none⟩) n c, .agg R.cells.toArray, .bool b] w (FaultAns w f R b n)) := fun w R b u hr => fault_any (h.up u) (by omega) hc hm h8 (by
    rcases hr with ⟨_, hr, _⟩ | ⟨_, hr, _⟩
    · have := rowsT_byte R hr
      exact ⟨this.2.2.1, this.2.2.2.1, this.2.2.2.2⟩
    · subst hr; decide)
  have HTi : Hid (∀ w, Up W w → Calls Tryd.prog 34 #[.slice (some ⟨g, 0, none⟩) n c] w (TitleAns w f)) := fun w u => title_any (h.up u) (by omega) hc hm h8
  have HBk : Hid (c8 ≤ 6 → ∀ w, Calls Tryd.prog 35 #[.int .u8 (c8 : Int)] w fun e w' => e = .returned (.int .i64 ((2 * 2 ^ c8 : Nat) : Int)) ∧ w' = w) := fun h w => banksOf_any h
  have HRm : Hid (∀ w R, Up W w → c9 ≤ 5 → R.mapper ≤ 5 → Calls Tryd.prog 36 #[.agg R.cells.toArray, .int .u8 (c9 : Int)] w fun e w' => e = .returned (.int .i64 (ramN R c9 : Nat)) ∧ Up w w') := fun w R u h1 h2 => ram_any (hT.up u) h1 h2
  have HC : Hid (∀ w, Up W w → w.cell? ⟨g, 327, none⟩ = some (.int .u8 (c7 : Int)) ∧ w.cell? ⟨g, 328, none⟩ = some (.int .u8 (c8 : Int)) ∧ w.cell? ⟨g, 329, none⟩ = some (.int .u8 (c9 : Int))) := fun w u => ⟨by rw [← hc7]; exact (h.up u).cell 327 (by omega), by rw [← hc8]; exact (h.up u).cell 328 (by omega), by rw [← hc9]; exact (h.up u).cell 329 (by omega)⟩
  have H7 : Hid (f 327 = (c7 : Int) ∧ f 328 = (c8 : Int) ∧ f 329 = (c9 : Int)) := ⟨hc7, hc8, hc9⟩
  have HB0 : Hid ((W.alloc (.cells #[.string ⟨#[]⟩, .int .i64 0, .int .i64 0, .int .i64 0, .int .i64 0, .bool false] 30)).heap[W.heap.size]? = some (.cells #[.string ⟨#[]⟩, .int .i64 0, .int .i64 0, .int .i64 0, .int .i64 0, .bool false] 30 (0, 0))) := heap_alloc_new W _
  have HU0 : Hid (Up W (W.alloc (.cells #[.string ⟨#[]⟩, .int .i64 0, .int .i64 0, .int .i64 0, .int .i64 0, .bool false] 30))) := (Up.refl W).alloc _
  have hgl := h.lt
  clear hT h h8 hc7 hc8 hc9
  have e1 : ¬ (n : Int) < 32768 := by omega
  have e2 : ¬ (2097152 : Int) < (n : Int) := by omega
  obtain ⟨k7, _, _⟩ := HC.out _ HU0.out
  go_enter Tryd.func13, Tryd.ntmps13
  go_wp2_with fail
  generalize World.alloc W _ = W1 at HB0 HU0 k7 ⊢
  generalize hrb : W.heap.size = hb at HB0 hgl ⊢
  refine (HRO.out _ HU0.out).mono ?_
  rintro e w2 ⟨R, b, rfl, hr, u2⟩
  have HRw : Hid (RowIs c7 R b) := hr
  have HU2 : Hid (Up W w2) := HU0.out.trans u2
  have HB2 : Hid (w2.heap[hb]? = some (.cells #[.string ⟨#[]⟩, .int .i64 0, .int .i64 0, .int .i64 0, .int .i64 0, .bool false] 30 (0, 0))) := (u2.block hb (heap_at HB0.out)).trans HB0.out
  clear hr u2 HB0 HU0 HRO k7
  have HFb : Hid _ := fun w u => HFa.out w R b u HRw.out
  clear HFa
  have hmp : R.mapper ≤ 5 := by
    rcases HRw.out with ⟨_, hr, _⟩ | ⟨_, hr, _⟩
    · exact (rowsT_byte R hr).2.1
    · subst hr; decide
  have HRn : Hid _ := fun w u h9 => HRm.out w R u h9 hmp
  clear HRm
  have HFin : Hid (∀ e w', (∃ mk, MarkIs f mk ∧ Up W w' ∧ ((faultI mk f R b n ≠ 0 ∧ e = .returned (.tuple #[.agg zHead, .int .i64 (faultI mk f R b n)])) ∨ (faultI mk f R b n = 0 ∧ ∃ m, TitleIs f m ∧ e = .returned (.tuple #[.agg (headC (strF f 308 m) R c8 c9), .int .i64 0])))) → CheckAns W f n e w') := fun e w' ⟨mk, q1, q2, q3⟩ => by
    obtain ⟨a7, a8, a9⟩ := H7.out
    refine ⟨R, b, mk, by rw [a7]; exact HRw.out, q1, q2, ?_⟩
    rw [a8, a9]
    exact q3
  obtain ⟨kd, mp, bk, lo, hi', bt⟩ := R
  have hkd : kd ≤ 255 := by
    rcases HRw.out with ⟨_, hr, _⟩ | ⟨_, hr, _⟩
    · exact (rowsT_byte _ hr).1
    · have : kd = 0 := by injection hr
      omega
  unfold Rw.cells at HFb HRn ⊢
  dsimp only at HFb HRn ⊢
  go_wp2_with fail
  have HU3 : Hid (Up W (w2.alloc (.cells #[.int .u8 (kd : Int), .int .i64 (mp : Int), .int .i64 (bk : Int), .int .u8 (lo : Int), .int .u8 (hi' : Int), .bool bt] 71))) := HU2.out.alloc _
  have HB3 : Hid ((w2.alloc (.cells #[.int .u8 (kd : Int), .int .i64 (mp : Int), .int .i64 (bk : Int), .int .u8 (lo : Int), .int .u8 (hi' : Int), .bool bt] 71)).heap[hb]? = some (.cells #[.string ⟨#[]⟩, .int .i64 0, .int .i64 0, .int .i64 0, .int .i64 0, .bool false] 30 (0, 0)) ∧ (w2.alloc (.cells #[.int .u8 (kd : Int), .int .i64 (mp : Int), .int .i64 (bk : Int), .int .u8 (lo : Int), .int .u8 (hi' : Int), .bool bt] 71)).heap[w2.heap.size]? = some (.cells #[.int .u8 (kd : Int), .int .i64 (mp : Int), .int .i64 (bk : Int), .int .u8 (lo : Int), .int .u8 (hi' : Int), .bool bt] 71 (0, 0))) := ⟨(((Up.refl w2).alloc _).block hb (heap_at HB2.out)).trans HB2.out, heap_alloc_new w2 _⟩
  have hw2 := heap_at HB2.out
  clear HU2 HB2
  generalize World.alloc w2 _ = W3 at HU3 HB3 ⊢
  generalize hrb2 : w2.heap.size = rb at HB3 hw2 ⊢
  refine (HFb.out _ HU3.out).mono ?_
  rintro e w4 ⟨mk, rfl, hmk, u4⟩
  have HK : Hid (MarkIs f mk) := hmk
  have HU4 : Hid (Up W w4) := HU3.out.trans u4
  have HB4 : Hid (w4.heap[hb]? = some (.cells #[.string ⟨#[]⟩, .int .i64 0, .int .i64 0, .int .i64 0, .int .i64 0, .bool false] 30 (0, 0)) ∧ w4.heap[rb]? = some (.cells #[.int .u8 (kd : Int), .int .i64 (mp : Int), .int .i64 (bk : Int), .int .u8 (lo : Int), .int .u8 (hi' : Int), .bool bt] 71 (0, 0))) := ⟨(u4.block hb (heap_at HB3.out.1)).trans HB3.out.1, (u4.block rb (heap_at HB3.out.2)).trans HB3.out.2⟩
  clear hmk u4 HB3 HU3 HFb
  obtain ⟨x, hx⟩ : ∃ x, faultI mk f ⟨kd, mp, bk, lo, hi', bt⟩ b n = x := ⟨_, rfl⟩
  have HX : Hid (faultI mk f ⟨kd, mp, bk, lo, hi', bt⟩ b n = x) := hx
  rw [hx]
  have HX0 : Hid (x = 0 → c8 ≤ 6 ∧ c9 ≤ 5) := fun h0 => by
    obtain ⟨a7, a8, a9⟩ := H7.out
    rw [h0] at hx
    unfold faultI at hx
    rw [a8, a9, Int.toNat_natCast] at hx
    have hlo : hi' ≤ 5 := by
      rcases HRw.out with ⟨_, hr, _⟩ | ⟨_, hr, _⟩
      · exact (rowsT_byte _ hr).2.2.2.2
      · have : hi' = 0 := by injection hr
        omega
    split at hx
    · cases hx
    · split at hx
      · cases hx
      · split at hx
        · cases hx
        · split at hx
          · cases hx
          · split at hx
            · cases hx
            · rename_i hT
              split at hx
              · cases hx
              · rename_i hL
                have hT : takesB ⟨kd, mp, bk, lo, hi', bt⟩ c8 n = true := by simpa using hT
                unfold takesB at hT
                have h6 : c8 ≤ 6 := by
                  by_cases h6 : c8 ≤ 6
                  · exact h6
                  · rw [decide_eq_false h6] at hT; cases hT
                have hL : ¬ ((c9 : Int) < (lo : Int) ∨ (hi' : Int) < (c9 : Int)) := hL
                exact ⟨h6, by omega⟩
  clear hx
  by_cases hx0 : x = 0
  · subst hx0
    obtain ⟨h8, h9⟩ := HX0.out rfl
    have HBk1 : Hid _ := HBk.out h8
    have HRn1 : Hid _ := fun w u => HRn.out w u h9
    have ewk : IntKind.i64.wrap (kd : Int) = (kd : Int) := wrapIn _ (by omega)
    have e328 : (328 : Int) < (n : Int) := by omega
    have e329 : (329 : Int) < (n : Int) := by omega
    have HSw : Hid (∀ w, Up w4 w → w.rangeAt rb 0 [.int .u8 (kd : Int), .int .i64 (mp : Int), .int .i64 (bk : Int), .int .u8 (lo : Int), .int .u8 (hi' : Int), .bool bt] ∧ w.cell? ⟨g, 328, none⟩ = some (.int .u8 (c8 : Int)) ∧ w.cell? ⟨g, 329, none⟩ = some (.int .u8 (c9 : Int)) ∧ w.cell? ⟨rb, 0, none⟩ = some (.int .u8 (kd : Int)) ∧ w.cell? ⟨rb, 1, none⟩ = some (.int .i64 (mp : Int)) ∧ w.cell? ⟨rb, 5, none⟩ = some (.bool bt)) := fun w u => ⟨range_up u (range_heap HB4.out.2), (HC.out w (HU4.out.trans u)).2.1, (HC.out w (HU4.out.trans u)).2.2, cell_up u (heap_cell HB4.out.2 rfl), cell_up u (heap_cell HB4.out.2 rfl), cell_up u (heap_cell HB4.out.2 rfl)⟩
    have HHd : Hid (∀ m, headC (strF f 308 m) ⟨kd, mp, bk, lo, hi', bt⟩ c8 c9 = #[.string (strF f 308 m), .int .i64 (kd : Int), .int .i64 (mp : Int), .int .i64 ((2 * 2 ^ c8 : Nat) : Int), .int .i64 (ramN ⟨kd, mp, bk, lo, hi', bt⟩ c9 : Nat), .bool bt]) := fun m => rfl
    clear HBk HRn
    generalize 2 * 2 ^ c8 = BN at HBk1 HHd
    generalize ramN ⟨kd, mp, bk, lo, hi', bt⟩ c9 = RN at HRn1 HHd
    go_wp2_with fail
    refine wp_region_held_drew (S := fun w => w.rangeAt rb 0 [.int .u8 (kd : Int), .int .i64 (mp : Int), .int .i64 (bk : Int), .int .u8 (lo : Int), .int .u8 (hi' : Int), .bool bt] ∧ w.cell? ⟨g, 328, none⟩ = some (.int .u8 (c8 : Int)) ∧ w.cell? ⟨g, 329, none⟩ = some (.int .u8 (c9 : Int)) ∧ w.cell? ⟨rb, 0, none⟩ = some (.int .u8 (kd : Int)) ∧ w.cell? ⟨rb, 1, none⟩ = some (.int .i64 (mp : Int)) ∧ w.cell? ⟨rb, 5, none⟩ = some (.bool bt)) (by kernel_rfl) ?_ (fun hHeld => ?_)
    · exact HSw.out _ (Up.refl w4).drew
    have u6 : Up w4 w4.drew := (Up.refl w4).drew
    generalize World.drew w4 = wd at u6 hHeld ⊢
    refine wpAnyH_take (i := 0) (v := ?_) (by simp only [List.getElem?_toArray, List.getElem?_cons_zero]; rfl) (by kernel_rfl) (by kernel_rfl) (by kernel_rfl) (by intro _ _ _ h; exact h) (Or.inl ⟨by rfl, ?_⟩) (by assumption) ?_
    rotate_left
    · (intro w hSw; (try dsimp only at hSw); go_simp <;> with_reducible rfl)
    try simp only [Act.put, List.setIfInBounds_toArray, List.set_cons_zero, List.set_cons_succ]
    refine wpAnyH_take (i := 2) (v := ?_) (by simp only [List.getElem?_toArray, List.getElem?_cons_succ, List.getElem?_cons_zero]; rfl) (by kernel_rfl) (by kernel_rfl) (by kernel_rfl) (by intro _ _ _ h; exact h) (Or.inl ⟨by rfl, ?_⟩) (by assumption) ?_
    rotate_left
    · (intro w hSw; (try dsimp only at hSw); go_simp <;> with_reducible rfl)
    try simp only [Act.put, List.setIfInBounds_toArray, List.set_cons_zero, List.set_cons_succ]
    refine wpAnyH_take (i := 3) (v := ?_) (by simp only [List.getElem?_toArray, List.getElem?_cons_succ, List.getElem?_cons_zero]; rfl) (by kernel_rfl) (by kernel_rfl) (by kernel_rfl) (by intro _ _ _ h; exact h) (Or.inl ⟨by rfl, ?_⟩) (by assumption) ?_
    rotate_left
    · (intro w hSw; (try dsimp only at hSw); go_simp <;> with_reducible rfl)
    try simp only [Act.put, List.setIfInBounds_toArray, List.set_cons_zero, List.set_cons_succ]
    refine wpAnyH_take (i := 4) (v := ?_) (by simp only [List.getElem?_toArray, List.getElem?_cons_succ, List.getElem?_cons_zero]; rfl) (by kernel_rfl) (by kernel_rfl) (by kernel_rfl) (by intro _ _ _ h; exact h) (Or.inl ⟨by rfl, ?_⟩) (by assumption) ?_
    rotate_left
    · (intro w hSw; (try dsimp only at hSw); go_simp <;> with_reducible rfl)
    try simp only [Act.put, List.setIfInBounds_toArray, List.set_cons_zero, List.set_cons_succ]
    refine wpAnyH_take (i := 5) (v := ?_) (by simp only [List.getElem?_toArray, List.getElem?_cons_succ, List.getElem?_cons_zero]; rfl) (by kernel_rfl) (by kernel_rfl) (by kernel_rfl) (by intro _ _ _ h; exact h) (Or.inl ⟨by rfl, ?_⟩) (by assumption) ?_
    rotate_left
    · (intro w hSw; (try dsimp only at hSw); go_simp <;> with_reducible rfl)
    try simp only [Act.put, List.setIfInBounds_toArray, List.set_cons_zero, List.set_cons_succ]
    refine wpAnyH_take (i := 6) (v := ?_) (by simp only [List.getElem?_toArray, List.getElem?_cons_succ, List.getElem?_cons_zero]; rfl) (by kernel_rfl) (by kernel_rfl) (by kernel_rfl) (by intro _ _ _ h; exact h) (Or.inl ⟨by rfl, ?_⟩) (by assumption) ?_
    rotate_left
    · (intro w hSw; (try dsimp only at hSw); go_simp <;> with_reducible rfl)
    try simp only [Act.put, List.setIfInBounds_toArray, List.set_cons_zero, List.set_cons_succ]
    refine wpAnyH_take (i := 7) (v := ?_) (by simp only [List.getElem?_toArray, List.getElem?_cons_succ, List.getElem?_cons_zero]; rfl) (by kernel_rfl) (by kernel_rfl) (by kernel_rfl) (by intro _ _ _ h; exact h) (Or.inl ⟨by rfl, ?_⟩) (by assumption) ?_
    rotate_left
    · (intro w hSw; (try dsimp only at hSw); go_simp <;> with_reducible rfl)
    try simp only [Act.put, List.setIfInBounds_toArray, List.set_cons_zero, List.set_cons_succ]
    refine wpAnyH_take (i := 8) (v := ?_) (by simp only [List.getElem?_toArray, List.getElem?_cons_succ, List.getElem?_cons_zero]; rfl) (by kernel_rfl) (by kernel_rfl) (by kernel_rfl) (by intro _ _ _ h; exact h) (Or.inl ⟨by rfl, ?_⟩) (by assumption) ?_
    rotate_left
    · (intro w hSw; (try dsimp only at hSw); go_simp <;> with_reducible rfl)
    try simp only [Act.put, List.setIfInBounds_toArray, List.set_cons_zero, List.set_cons_succ]
    refine wpAnyH_take (i := 9) (v := ?_) (by simp only [List.getElem?_toArray, List.getElem?_cons_succ, List.getElem?_cons_zero]; rfl) (by kernel_rfl) (by kernel_rfl) (by kernel_rfl) (by intro _ _ _ h; exact h) (Or.inl ⟨by rfl, ?_⟩) (by assumption) ?_
    rotate_left
    · (intro w hSw; (try dsimp only at hSw); go_simp <;> with_reducible rfl)
    try simp only [Act.put, List.setIfInBounds_toArray, List.set_cons_zero, List.set_cons_succ]
    refine wpAnyH_take (i := 11) (v := .agg [.int .u8 (kd : Int), .int .i64 (mp : Int), .int .i64 (bk : Int), .int .u8 (lo : Int), .int .u8 (hi' : Int), .bool bt].toArray) (by simp only [List.getElem?_toArray, List.getElem?_cons_succ, List.getElem?_cons_zero]; rfl) (by kernel_rfl) (by kernel_rfl) (by kernel_rfl) (by intro _ _ _ h; exact h) (yieldsIf_load_mid (by rfl) 71 _ rfl rb 0 rfl [.int .u8 (kd : Int), .int .i64 (mp : Int), .int .i64 (bk : Int), .int .u8 (lo : Int), .int .u8 (hi' : Int), .bool bt] _ (fun w hw => hw.1) Tryd.underlying71 rfl (by kernel_rfl)) (by assumption) ?_
    simp only [Act.put, List.setIfInBounds_toArray, List.set_cons_zero, List.set_cons_succ]
    refine wpAnyH_take (i := 12) (v := ?_) (by simp only [List.getElem?_toArray, List.getElem?_cons_succ, List.getElem?_cons_zero]; rfl) (by kernel_rfl) (by kernel_rfl) (by kernel_rfl) (by intro _ _ _ h; exact h) (Or.inl ⟨by rfl, ?_⟩) (by assumption) ?_
    rotate_left
    · (intro w hSw; (try dsimp only at hSw); go_simp <;> with_reducible rfl)
    try simp only [Act.put, List.setIfInBounds_toArray, List.set_cons_zero, List.set_cons_succ]
    refine wpAnyH_take (i := 13) (v := ?_) (by simp only [List.getElem?_toArray, List.getElem?_cons_succ, List.getElem?_cons_zero]; rfl) (by kernel_rfl) (by kernel_rfl) (by kernel_rfl) (by intro _ _ _ h; exact h) (Or.inl ⟨by rfl, ?_⟩) (by assumption) ?_
    rotate_left
    · (intro w hSw; (try dsimp only at hSw); go_simp <;> with_reducible rfl)
    try simp only [Act.put, List.setIfInBounds_toArray, List.set_cons_zero, List.set_cons_succ]
    refine wpAnyH_take (i := 14) (v := ?_) (by simp only [List.getElem?_toArray, List.getElem?_cons_succ, List.getElem?_cons_zero]; rfl) (by kernel_rfl) (by kernel_rfl) (by kernel_rfl) (by intro _ _ _ h; exact h) (Or.inl ⟨by rfl, ?_⟩) (by assumption) ?_
    rotate_left
    · (intro w hSw; (try dsimp only at hSw); go_simp <;> with_reducible rfl)
    try simp only [Act.put, List.setIfInBounds_toArray, List.set_cons_zero, List.set_cons_succ]
    refine wpAnyH_take (i := 16) (v := ?_) (by simp only [List.getElem?_toArray, List.getElem?_cons_succ, List.getElem?_cons_zero]; rfl) (by kernel_rfl) (by kernel_rfl) (by kernel_rfl) (by intro _ _ _ h; exact h) (Or.inl ⟨by rfl, ?_⟩) (by assumption) ?_
    rotate_left
    · (intro w hSw; (try dsimp only at hSw); go_simp <;> with_reducible rfl)
    try simp only [Act.put, List.setIfInBounds_toArray, List.set_cons_zero, List.set_cons_succ]
    refine wpAnyH_take (i := 17) (v := ?_) (by simp only [List.getElem?_toArray, List.getElem?_cons_succ, List.getElem?_cons_zero]; rfl) (by kernel_rfl) (by kernel_rfl) (by kernel_rfl) (by intro _ _ _ h; exact h) (Or.inl ⟨by rfl, ?_⟩) (by assumption) ?_
    rotate_left
    · (intro w hSw; (try dsimp only at hSw); go_simp <;> with_reducible rfl)
    try simp only [Act.put, List.setIfInBounds_toArray, List.set_cons_zero, List.set_cons_succ]
    refine wpAnyH_ready (rs := [1]) (by kernel_rfl) (by simp) ?_
    refine AllReadyH.cons (by simp only [List.getElem?_toArray, List.getElem?_cons_succ, List.getElem?_cons_zero]; rfl) (fun KK hK => ?_) AllReadyH.nil
    go_simp
    refine (HTi.out wd (HU4.out.trans u6)).mono ?_
    rintro e w5 ⟨m, rfl, ht, u5⟩
    have HTm : Hid (TitleIs f m) := ht
    have HX5 : Hid (Up w4 w5) := u6.trans u5
    have hHm := HHd.out m
    clear ht u5 u6 HHd
    generalize hTT : strF f 308 m = T at hHm ⊢
    have HTT : Hid (strF f 308 m = T) := hTT
    clear hTT
    refine hK.out _ _ (HSw.out _ HX5.out) (fun hHeld => ?_)
    clear hK KK
    try simp only [Act.put, List.setIfInBounds_toArray, List.set_cons_zero, List.set_cons_succ]
    refine wpAnyH_ready (rs := [10]) (by kernel_rfl) (by simp) ?_
    refine AllReadyH.cons (by simp only [List.getElem?_toArray, List.getElem?_cons_succ, List.getElem?_cons_zero]; rfl) (fun KK hK => ?_) AllReadyH.nil
    go_simp
    refine (HBk1.out _).mono ?_
    rintro e w6 ⟨rfl, hw6⟩
    obtain rfl := hw6.symm
    clear hw6
    refine hK.out _ _ (HSw.out _ HX5.out) (fun hHeld => ?_)
    clear hK KK
    try simp only [Act.put, List.setIfInBounds_toArray, List.set_cons_zero, List.set_cons_succ]
    refine wpAnyH_ready (rs := [15]) (by kernel_rfl) (by simp) ?_
    refine AllReadyH.cons (by simp only [List.getElem?_toArray, List.getElem?_cons_succ, List.getElem?_cons_zero]; rfl) (fun KK hK => ?_) AllReadyH.nil
    go_simp
    refine (HRn1.out _ (HU4.out.trans HX5.out)).mono ?_
    rintro e w7 ⟨rfl, u7⟩
    have HX7 : Hid (Up w4 w7) := HX5.out.trans u7
    clear u7
    refine hK.out _ _ (HSw.out _ HX7.out) (fun hHeld => ?_)
    clear hK KK
    try simp only [Act.put, List.setIfInBounds_toArray, List.set_cons_zero, List.set_cons_succ]
    refine wpAnyH_take (i := 18) (v := ?_) (by simp only [List.getElem?_toArray, List.getElem?_cons_succ, List.getElem?_cons_zero]; rfl) (by kernel_rfl) (by kernel_rfl) (by kernel_rfl) (by intro _ _ _ h; exact h) (Or.inl ⟨by rfl, ?_⟩) (by assumption) ?_
    rotate_left
    · (intro w hSw; (try dsimp only at hSw); go_simp <;> with_reducible rfl)
    try simp only [Act.put, List.setIfInBounds_toArray, List.set_cons_zero, List.set_cons_succ]
    refine wpAnyH_ready (rs := [19]) (by kernel_rfl) (by simp) ?_
    refine AllReadyH.cons (by simp only [List.getElem?_toArray, List.getElem?_cons_succ, List.getElem?_cons_zero]; rfl) (fun KK hK => ?_) AllReadyH.nil
    have HB7 : Hid (w7.heap[hb]? = some (.cells #[.string ⟨#[]⟩, .int .i64 0, .int .i64 0, .int .i64 0, .int .i64 0, .bool false] 30 (0, 0))) := (HX7.out.block hb (heap_at HB4.out.1)).trans HB4.out.1
    refine wp_store_mid 30 _ _ rfl hb 0 #[.string T, .int .i64 (kd : Int), .int .i64 (mp : Int), .int .i64 (BN : Int), .int .i64 (RN : Int), .bool bt] rfl rfl (there_heap HB7.out (by show 0 + 6 ≤ 6; decide)) (by kernel_rfl) (by simp [Value.oneCell']) ?_
    have fr : Fr hb w7 (w7.setCells hb 0 [.string T, .int .i64 (kd : Int), .int .i64 (mp : Int), .int .i64 (BN : Int), .int .i64 (RN : Int), .bool bt]) := fr_setCells _ _ 0 _
    have hrb9 : (w7.setCells hb 0 [.string T, .int .i64 (kd : Int), .int .i64 (mp : Int), .int .i64 (BN : Int), .int .i64 (RN : Int), .bool bt]).heap[hb]? = some (.cells #[.string T, .int .i64 (kd : Int), .int .i64 (mp : Int), .int .i64 (BN : Int), .int .i64 (RN : Int), .bool bt] 30 (0, 0)) := setCells_full HB7.out rfl
    have HQ : Hid _ := hrb9
    have HFr : Hid _ := fr
    have hS9 : (fun w => w.rangeAt rb 0 [.int .u8 (kd : Int), .int .i64 (mp : Int), .int .i64 (bk : Int), .int .u8 (lo : Int), .int .u8 (hi' : Int), .bool bt] ∧ w.cell? ⟨g, 328, none⟩ = some (.int .u8 (c8 : Int)) ∧ w.cell? ⟨g, 329, none⟩ = some (.int .u8 (c9 : Int)) ∧ w.cell? ⟨rb, 0, none⟩ = some (.int .u8 (kd : Int)) ∧ w.cell? ⟨rb, 1, none⟩ = some (.int .i64 (mp : Int)) ∧ w.cell? ⟨rb, 5, none⟩ = some (.bool bt)) (w7.setCells hb 0 [.string T, .int .i64 (kd : Int), .int .i64 (mp : Int), .int .i64 (BN : Int), .int .i64 (RN : Int), .bool bt]) := by
      obtain ⟨q1, q2, q3, q4, q5, q6⟩ := HSw.out _ HX7.out
      have hne : rb ≠ hb := by omega
      have hgb : g ≠ hb := by omega
      refine ⟨fun k v hk => ?_, ?_, ?_, (fr.cell (World.block_lt_of_cell? _ _ q4) hne).trans q4, (fr.cell (World.block_lt_of_cell? _ _ q5) hne).trans q5, (fr.cell (World.block_lt_of_cell? _ _ q6) hne).trans q6⟩
      · have := q1 k v hk
        exact (fr.cell (World.block_lt_of_cell? _ _ this) hne).trans this
      · exact (fr.cell (g := g) (k := 328) (World.block_lt_of_cell? _ _ q2) hgb).trans q2
      · exact (fr.cell (g := g) (k := 329) (World.block_lt_of_cell? _ _ q3) hgb).trans q3
    refine hK.out _ _ hS9 (fun hHeld => ?_)
    clear hK KK hS9
    try simp only [Act.put, List.setIfInBounds_toArray, List.set_cons_zero, List.set_cons_succ]
    refine wpAnyH_take (i := 20) (v := ?_) (by simp only [List.getElem?_toArray, List.getElem?_cons_succ, List.getElem?_cons_zero]; rfl) (by kernel_rfl) (by kernel_rfl) (by kernel_rfl) (by intro _ _ _ h; exact h) (Or.inl ⟨by rfl, ?_⟩) (by assumption) ?_
    rotate_left
    · (intro w hSw; (try dsimp only at hSw); go_simp <;> with_reducible rfl)
    try simp only [Act.put, List.setIfInBounds_toArray, List.set_cons_zero, List.set_cons_succ]
    refine wpAnyH_done (by kernel_rfl) ?_ _
    clear hHeld fr hrb9
    have HUe : Hid (Up W (w7.setCells hb 0 [.string T, .int .i64 (kd : Int), .int .i64 (mp : Int), .int .i64 (BN : Int), .int .i64 (RN : Int), .bool bt])) := Fr.up (HU4.out.trans HX7.out) (by omega) HFr.out
    generalize World.setCells w7 hb 0 _ = w9 at HQ HUe ⊢
    go_wp2_with fail
    refine bodyPost_ret (v := .tuple #[.agg _, .int .i64 0]) (results_row_tmp Tryd.results13 _ _ _ 30 _ (0, 0) _ rfl HQ.out Tryd.underlying30 rfl (by kernel_rfl)) rfl ?_
    exact HFin.out _ _ ⟨mk, HK.out, HUe.out, Or.inr ⟨HX.out, m, HTm.out, by rw [HTT.out, hHm]⟩⟩
  · go_wp2_with (refine wpList_store_rowTo rfl 30 _ _ rfl rfl hb #[.string ⟨#[]⟩, .int .i64 0, .int .i64 0, .int .i64 0, .int .i64 0, .bool false] rfl rfl 30 _ HB4.out.1 (by kernel_rfl) rfl (by simp [Value.oneCell']) ?_)
    refine bodyPost_ret (v := .tuple #[.agg _, .int .i64 x]) (results_row_tmp Tryd.results13 _ _ _ 30 _ (0, 0) _ rfl (setRow_heap _ _ _ _ _ _ HB4.out.1) Tryd.underlying30 rfl (by kernel_rfl)) rfl ?_
    exact HFin.out _ _ ⟨mk, HK.out, Fr.up HU4.out (by omega) ((Fr.refl _ _).setRow), Or.inl ⟨by rw [HX.out]; exact hx0, by rw [HX.out]; rfl⟩⟩
end Go.Proofs.YtojlappgmckokaaDoor
