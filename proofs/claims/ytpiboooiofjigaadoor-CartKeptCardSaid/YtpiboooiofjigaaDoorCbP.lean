/- Cart: what a ROM with a good header is refused with. -/
import Derived.Test.YtpiboooiofjigaaDoorCbO
namespace Go.Proofs.YtpiboooiofjigaaDoor
open Go.Shelf Go.RowKit
set_option linter.unusedVariables false
set_option linter.unusedSimpArgs false
variable {w w' W : World} {g n c : Nat} {f : Nat → Int} {A : Ad} {C : Ct}
/-- a header with its mark and its sum -/
structure Gd (f : Nat → Int) (md ty rc rm : Nat) : Prop where
  mark : ∀ i, i < 48 → f (260 + i) = markF i
  sum : f 333 = (231 - sig f 25) % 256
  md : f 323 = (md : Int)
  ty : f 327 = (ty : Int)
  rc : f 328 = (rc : Int)
  rm : f 329 = (rm : Int)
theorem gd_rom {ty rc rm : Nat} (h1 : ty ≤ 255) (h2 : rc ≤ 255) (h3 : rm ≤ 255) (sd : Int) : Gd (romF ty rc rm sd) 0 ty rc rm :=
  ⟨fun i hi => rom_mark hi, rom_sum _ _ _ _, rom_323 _ _ _ _, by rw [rom_327]; omega, by rw [rom_328]; omega, by rw [rom_329]; omega⟩
theorem Gd.congr {f h : Nat → Int} {md ty rc rm : Nat} (hg : Gd f md ty rc rm) (e : ∀ k, 260 ≤ k → k ≤ 333 → h k = f k) : Gd h md ty rc rm :=
  ⟨fun i hi => by rw [e _ (by omega) (by omega)]; exact hg.mark i hi, by rw [e _ (by omega) (by omega), hg.sum, sig_congr (f := h) (f' := f) (fun j hj => e _ (by omega) (by omega))], by rw [e _ (by omega) (by omega)]; exact hg.md, by rw [e _ (by omega) (by omega)]; exact hg.ty, by rw [e _ (by omega) (by omega)]; exact hg.rc, by rw [e _ (by omega) (by omega)]; exact hg.rm⟩
def errOf (md ty rc rm n : Nat) : Int :=
  if md = 192 then 44 else match rowsT.find? (fun R => R.kind == ty) with
  | none => 45
  | some R => if takesB R rc n = false then 46 else if rm < R.lo ∨ R.hi < rm then 47 else 0
theorem fault_gd {md ty rc rm : Nat} {R : Rw} {b mk : Bool} (h : Gd f md ty rc rm) (hr : RowIs (f 327).toNat R b) (hm : MarkIs f mk) : faultI mk f R b n = errOf md ty rc rm n := by
  rw [h.ty, Int.toNat_natCast] at hr
  obtain rfl : mk = true := by
    rcases hm with ⟨h, _⟩ | ⟨_, i, hi, hne⟩
    · exact h
    · exact absurd (h.mark i hi) hne
  unfold faultI errOf
  rw [if_neg (by decide), if_neg (by rw [h.sum]; simp), h.md, h.rc, h.rm, Int.toNat_natCast]
  by_cases hmd : md = 192
  · rw [if_pos (by omega), if_pos hmd]
  · rw [if_neg (by omega), if_neg hmd]
    rcases hr with ⟨rfl, hR, hk⟩ | ⟨rfl, rfl, hn⟩
    · have hf : rowsT.find? (fun R => R.kind == ty) = some R := by
        cases hq : rowsT.find? (fun R => R.kind == ty) with
        | none =>
          have := List.find?_eq_none.1 hq R hR
          simp [hk] at this
        | some S =>
          have h1 := List.find?_some hq
          have h2 := List.mem_of_find?_eq_some hq
          rw [rows_uniq h2 hR (by rw [hk]; simpa using h1)]
      rw [hf, if_neg (by decide)]
      dsimp only
      by_cases ht : takesB R rc n = false
      · rw [if_pos ht, if_pos ht]
      · rw [if_neg ht, if_neg ht]
        by_cases hq : rm < R.lo ∨ R.hi < rm
        · rw [if_pos (by omega), if_pos hq]
        · rw [if_neg (by omega), if_neg hq]
    · have hf : rowsT.find? (fun R => R.kind == ty) = none := List.find?_eq_none.2 (fun r hr => by have := hn r hr; simpa using this)
      rw [hf, if_pos rfl]
theorem check_gd {md ty rc rm : Nat} {x : Int} (hT : Tb W) (h : By W g n f) (hn : 32768 ≤ n) (hn2 : n ≤ 2097152) (hc : n ≤ c) (hm : c ≤ 9223372036854775807) (h8 : ∀ k, 0 ≤ f k ∧ f k ≤ 255) (hg : Gd f md ty rc rm) (hx : errOf md ty rc rm n = x) (hx0 : x ≠ 0) : Calls Tryd.prog 13 #[.slice (some ⟨g, 0, none⟩) n c] W fun e w' => e = .returned (.tuple #[.agg zHead, .int .i64 x]) ∧ Up W w' := by
  refine (check_any hT h hn hn2 hc hm h8).mono ?_
  rintro e w' ⟨R, b, mk, hr, hm, u, hcs⟩
  rw [fault_gd hg hr hm, hx] at hcs
  rcases hcs with ⟨_, he⟩ | ⟨h0, _⟩
  · exact ⟨he, u⟩
  · exact absurd h0 hx0
theorem new_gd {md ty rc rm : Nat} {x : Int} (hT : Tb W) (h : By W g n f) (hn : 32768 ≤ n) (hn2 : n ≤ 2097152) (hc : n ≤ c) (hm : c ≤ 9223372036854775807) (h8 : ∀ k, 0 ≤ f k ∧ f k ≤ 255) (hg : Gd f md ty rc rm) (hx : errOf md ty rc rm n = x) (hx0 : x ≠ 0) : Calls Tryd.prog 15 #[.slice (some ⟨g, 0, none⟩) n c, .slice none 0 0] W fun e w' => e = .returned (.tuple #[.pointer none, .int .i64 x]) ∧ Up W w' := by
  refine (new_any hT h hn hn2 hc hm h8).mono ?_
  rintro e w' ⟨R, b, mk, hr, hm, u, hcs⟩
  rw [fault_gd hg hr hm, hx] at hcs
  rcases hcs with ⟨_, he⟩ | ⟨h0, _⟩
  · exact ⟨he, u⟩
  · exact absurd h0 hx0
/-- a save of zeros -/
theorem new_zero {ty rc rm sg sn : Nat} {R0 : Rw} (hT : Tb W) (h : By W g n f) (hn : 32768 ≤ n) (hn2 : n ≤ 2097152) (h8 : ∀ k, 0 ≤ f k ∧ f k ≤ 255) (hg : Gd f 0 ty rc rm) (hx : errOf 0 ty rc rm n = 0) (hR0 : R0 ∈ rowsT) (hk : R0.kind = ty) (hS : By W sg sn (fun _ => 0)) (hs1 : 1 ≤ sn) (hs2 : sn ≤ 9223372036854775807) : Calls Tryd.prog 15 #[.slice (some ⟨g, 0, none⟩) n n, .slice (some ⟨sg, 0, none⟩) sn sn] W fun e w' => Up W w' ∧ ((¬ (R0.bat = true ∧ sn = ramN R0 rm) ∧ e = .returned (.tuple #[.pointer none, .int .i64 48])) ∨ ((R0.bat = true ∧ sn = ramN R0 rm) ∧ ∃ A D, e = .returned (.tuple #[.pointer (some ⟨A.cb, 0, none⟩), .int .i64 0]) ∧ Cz W.heap.size w'.heap.size A D w' ∧ D.m = Mp.new R0.mapper ∧ D.rm = ramN R0 rm ∧ (∀ k, D.rf k = 0))) := by
  refine (new_save hS hs1 (Nat.le_refl _) (by unfold maxLen; omega) (fun _ => ⟨Int.le_refl 0, by decide⟩) hT h hn hn2 (Nat.le_refl _) (by omega) h8).mono ?_
  rintro e w' ⟨R, b, mk, hr, hm, u, hcs⟩
  rw [fault_gd hg hr hm, hx] at hcs
  have hr2 := hr
  rw [hg.ty, Int.toNat_natCast] at hr2
  have hRR : R = R0 := by
    rcases hr2 with ⟨_, h1, h2⟩ | ⟨_, _, h2⟩
    · exact rows_uniq h1 hR0 (by rw [h2, hk])
    · exact absurd hk (h2 R0 hR0)
  subst hRR
  have e9 : (f 329).toNat = rm := by rw [hg.rm]; rfl
  rw [e9] at hcs
  have hsf : SaveFits R (ramN R rm) sn (fun _ => 0) ↔ (R.bat = true ∧ sn = ramN R rm) := ⟨fun q => ⟨q.1, q.2.1⟩, fun q => ⟨q.1, q.2, fun k _ => Int.natCast_nonneg _⟩⟩
  refine ⟨u, ?_⟩
  rcases hcs with ⟨h1, _⟩ | ⟨_, h1, he⟩ | ⟨_, h1, m, A, ht, hc, a1, a2, a3, a4, he⟩
  · exact absurd rfl h1
  · exact Or.inl ⟨fun q => h1 (hsf.2 q), he⟩
  · exact Or.inr ⟨hsf.1 h1, A, _, he, Cz.of ⟨hc, u, a1, a2, a3, a4⟩ (fun k => ⟨Int.le_refl 0, Int.natCast_nonneg _⟩) (Mp.new_std (rowsT_mp R hR0)), rfl, rfl, fun _ => rfl⟩
/-- another model, and its sum -/
theorem gd_model {md ty rc rm : Nat} {x : Int} (mx : Nat) (ex : x = (mx : Int)) (h : Gd f md ty rc rm) : Gd (putF (putF f 323 1 (fun _ => x)) 333 1 (fun _ => (231 - sig (putF f 323 1 (fun _ => x)) 25) % 256)) mx ty rc rm := by
  subst ex
  refine ⟨fun i hi => ?_, ?_, ?_, ?_, ?_, ?_⟩
  · rw [putF_out _ _ (by omega), putF_out _ _ (by omega)]
    exact h.mark i hi
  · have e : ∀ S : Nat → Int, sig (putF (putF f 323 1 (fun _ => (mx : Int))) 333 1 S) 25 = sig (putF f 323 1 (fun _ => (mx : Int))) 25 := fun S => sig_congr (fun j hj => putF_out _ _ (by omega))
    rw [e, putF_in _ _ (by omega) (by omega)]
  · rw [putF_out _ _ (by omega), putF_in _ _ (by omega) (by omega)]
  · rw [putF_out _ _ (by omega), putF_out _ _ (by omega)]
    exact h.ty
  · rw [putF_out _ _ (by omega), putF_out _ _ (by omega)]
    exact h.rc
  · rw [putF_out _ _ (by omega), putF_out _ _ (by omega)]
    exact h.rm
theorem model_byte {x : Int} (hx : 0 ≤ x ∧ x ≤ 255) (h8 : ∀ k, 0 ≤ f k ∧ f k ≤ 255) : ∀ k, 0 ≤ putF (putF f 323 1 (fun _ => x)) 333 1 (fun _ => (231 - sig (putF f 323 1 (fun _ => x)) 25) % 256) k ∧ putF (putF f 323 1 (fun _ => x)) 333 1 (fun _ => (231 - sig (putF f 323 1 (fun _ => x)) 25) % 256) k ≤ 255 :=
  putF_byte (putF_byte h8 (fun _ => hx)) (fun _ => by omega)
/-- a list that was made longer by one byte 0 -/
def longF (N : Nat) (f : Nat → Int) : Nat → Int := fun k => if k < N then f k else 0
theorem byL_one_more (N : Nat) (f : Nat → Int) : byL f N ++ [.int .u8 0] = byL (longF N f) (N + 1) := by
  have h : [.int .u8 0] = byL (fun _ => 0) 1 := rfl
  rw [h, cat_list]
  rfl
theorem cell_zero (w : World) : ∀ j u, ([.int .u8 0] : List Value)[j]? = some u → (w.alloc (.cells #[.int .u8 0] 5)).cell? ((⟨w.heap.size, 0, none⟩ : Addr).add j) = some u := by
  intro j u hj
  match j, hj with
  | 0, hj =>
    rw [Addr.add_lit]
    have hj : some (Value.int .u8 0) = some u := hj
    rw [← hj]
    exact heap_cell (heap_alloc_new w _) rfl
  | j + 1, hj => simp at hj
/-- a row of one's own as bytes -/
theorem By.ofOwn {base N : Nat} {v : Value} {h : Nat → Int} (ho : w.ownsRow base 5 1 v N (byL h N)) (hN : 1 ≤ N) : ∃ g cap, v = .slice (some ⟨g, 0, none⟩) N cap ∧ base ≤ g ∧ By w g N h ∧ N ≤ cap ∧ cap ≤ maxLen := by
  rcases ho.2 with ⟨_, hz⟩ | ⟨g', cap', cur, hv, hbase, hg, hn', hcm, hcs, htk⟩
  · omega
  · refine ⟨g', cap', hv, hbase, ⟨cur, 5, hg, by omega, fun k hk => ?_⟩, hn', hcm⟩
    rw [own_at htk k (by omega)]
    exact byL_at hk
/-- a state that is taken -/
def sF : Nat → Int := putF (putF (fun _ => 0) 1 1 (fun _ => 31)) 3 1 (fun _ => 3)
theorem sF_u8 : ∀ k, 0 ≤ sF k ∧ sF k ≤ 255 := putF_byte (putF_byte (fun _ => ⟨Int.le_refl 0, by decide⟩) (fun _ => ⟨by decide, by decide⟩)) (fun _ => ⟨by decide, by decide⟩)
theorem sF_reg : ∀ k, k < 5 → (loB 1 k : Int) ≤ sF k ∧ sF k ≤ (hiB 1 k : Int) := by
  intro k hk
  match k, hk with
  | 0, _ => exact ⟨by decide, by decide⟩
  | 1, _ => exact ⟨by decide, by decide⟩
  | 2, _ => exact ⟨by decide, by decide⟩
  | 3, _ => exact ⟨by decide, by decide⟩
  | 4, _ => exact ⟨by decide, by decide⟩
theorem sF_out {k : Nat} (h : 5 ≤ k) : sF k = 0 := by
  unfold sF
  rw [putF_out _ _ (by omega), putF_out _ _ (by omega)]
theorem zero_reg : ¬ ∀ k, k < 5 → (loB 1 k : Int) ≤ (fun _ => 0 : Nat → Int) k ∧ (fun _ => 0 : Nat → Int) k ≤ (hiB 1 k : Int) := fun h => absurd (h 1 (by decide)).1 (by decide)
theorem st_sF {k : Nat} (hk : k < 5 + C.rm) : (C.loaded sF).st k = sF k := by
  unfold Ct.st catF
  by_cases h : k < 5
  · rw [if_pos h]
    match k, h with
    | 0, _ => rfl
    | 1, _ => rfl
    | 2, _ => rfl
    | 3, _ => rfl
    | 4, _ => rfl
  · rw [if_neg h]
    show (if k - 5 < C.rm then sF (5 + (k - 5)) else 0) = sF k
    rw [if_pos (by omega)]
    congr 1
    omega
theorem rd_out {a : Int} (h : a < 0 ∨ (32768 ≤ a ∧ a < 40960) ∨ 49152 ≤ a) : C.rd a = 255 := by
  unfold Ct.rd
  rcases h with h | h | h
  · rw [if_pos h]
  · rw [if_neg (by omega), if_neg (by omega), if_neg (by omega), if_neg (fun q => by have := q.1; omega)]
  · rw [if_neg (by omega), if_neg (by omega), if_neg (by omega), if_neg (fun q => by have := q.2.1; omega)]
theorem rd_shut {a : Int} (h : 32768 ≤ a) (hs : C.m.seen = false) : C.rd a = 255 := by
  unfold Ct.rd
  rw [if_neg (by omega), if_neg (by omega), if_neg (by omega), if_neg (fun q => by have := q.2.2.2; rw [hs] at this; cases this)]
theorem wr_out {a : Int} {x : Nat} (h : a < 0 ∨ (32768 ≤ a ∧ a < 40960) ∨ 49152 ≤ a) : C.wr a x = C := by
  unfold Ct.wr
  rw [if_neg (by omega), if_neg (fun q => by have h1 := q.1; have h2 := q.2.1; omega)]
theorem seen_sF (h : C.m.kd = 1) : (C.loaded sF).m.seen = false := by
  show (⟨C.m.kd, _, _, _, _, _⟩ : Mp).seen = false
  rw [h]
  rfl
/-- the boxes that are refused -/
def tyT (k : Nat) : Nat := ([2, 4, 255, 0, 5, 1, 5, 19, 27, 9, 3, 26, 0] : List Nat).getD k 0
def rcT (k : Nat) : Nat := ([0, 0, 0, 1, 4, 0, 0, 0, 0, 0, 0, 0, 0] : List Nat).getD k 0
def rmT (k : Nat) : Nat := ([0, 0, 0, 0, 0, 2, 2, 4, 1, 3, 6, 0, 2] : List Nat).getD k 0
def erT (k : Nat) : Nat := ([47, 45, 45, 46, 46, 47, 47, 47, 47, 47, 47, 47, 47] : List Nat).getD k 0
theorem thirteen : ∀ k : Fin 13, errOf 0 (tyT k.val) (rcT k.val) (rmT k.val) (32768 * 2 ^ rcT k.val) = (erT k.val : Int) ∧ (erT k.val : Int) ≠ 0 ∧ tyT k.val ≤ 255 ∧ rcT k.val ≤ 6 ∧ rmT k.val ≤ 255 ∧ erT k.val ≤ 47 ∧ 32768 ≤ 32768 * 2 ^ rcT k.val ∧ 32768 * 2 ^ rcT k.val ≤ 2097152 := by decide +kernel
end Go.Proofs.YtpiboooiofjigaaDoor
