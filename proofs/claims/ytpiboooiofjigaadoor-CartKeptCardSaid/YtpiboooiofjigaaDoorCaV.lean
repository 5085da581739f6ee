/- Cart: a header is strict. -/
import Derived.Test.YtpiboooiofjigaaDoorCaT
import Derived.Laws.BitsAllLaws
namespace Go.Proofs.YtpiboooiofjigaaDoor
open Go.Shelf Go.RowKit
set_option linter.unusedVariables false
set_option linter.unusedSimpArgs false
variable {w w' W : World} {g n : Nat} {f : Nat → Int}
/-- a ROM that is a box's in its header -/
def Hd (f F : Nat → Int) : Prop := ∀ k, 260 ≤ k → k < 334 → f k = F k
theorem Hd.refl (f : Nat → Int) : Hd f f := fun _ _ _ => rfl
theorem Hd.put {f F : Nat → Int} {k : Nat} {x : Int} (h : Hd f F) (hk : k < 260 ∨ 334 ≤ k) : Hd (putF f k 1 (fun _ => x)) F := fun j h1 h2 => by
  rw [putF_out _ _ (by omega)]
  exact h j h1 h2
theorem Hd.fault {f F : Nat → Int} {mk b : Bool} {R : Rw} (h : Hd f F) : faultI mk f R b n = faultI mk F R b n := by
  unfold faultI
  rw [sig_congr (f := f) (f' := F) (fun j hj => h _ (by omega) (by omega)), h 333 (by omega) (by omega), h 323 (by omega) (by omega), h 328 (by omega) (by omega), h 329 (by omega) (by omega)]
theorem Hd.mark {f F : Nat → Int} {mk : Bool} (h : Hd f F) (hm : MarkIs f mk) : MarkIs F mk := by
  rcases hm with ⟨h1, h2⟩ | ⟨h1, i, hi, h2⟩
  · exact Or.inl ⟨h1, fun i hi => (h _ (by omega) (by omega)).symm.trans (h2 i hi)⟩
  · exact Or.inr ⟨h1, i, hi, fun e => h2 ((h _ (by omega) (by omega)).trans e)⟩
theorem sig_put {f : Nat → Int} {j : Nat} {x : Int} (m : Nat) : sig (putF f (308 + j) 1 (fun _ => x)) m = sig f m + (if j < m then x - f (308 + j) else 0) := by
  induction m with
  | zero => rw [if_neg (by omega)]; rfl
  | succ m ih =>
    show sig _ m + putF f (308 + j) 1 (fun _ => x) (308 + m) = sig f m + f (308 + m) + _
    rw [ih]
    by_cases e : m = j
    · subst e
      rw [putF_in _ _ (by omega) (by omega), if_neg (by omega), if_pos (by omega)]
      omega
    · rw [putF_out _ _ (by omega)]
      by_cases e2 : j < m
      · rw [if_pos e2, if_pos (by omega)]; omega
      · rw [if_neg e2, if_neg (by omega)]; omega
/-- a byte of the mark turned -/
theorem turn_mark {ty rc rm sd x : Int} {k : Nat} {mk b : Bool} {R : Rw} (h1 : 260 ≤ k) (h2 : k < 308) (hx : x ≠ romF ty rc rm sd k) (hm : MarkIs (putF (romF ty rc rm sd) k 1 (fun _ => x)) mk) : faultI mk (putF (romF ty rc rm sd) k 1 (fun _ => x)) R b n = 42 := by
  rcases hm with ⟨_, h⟩ | ⟨rfl, _⟩
  · have := h (k - 260) (by omega)
    rw [show 260 + (k - 260) = k by omega, putF_in _ _ (by omega) (by omega)] at this
    refine absurd ?_ hx
    rw [this, ← rom_mark (ty := ty) (rc := rc) (rm := rm) (sd := sd) (i := k - 260) (by omega), show 260 + (k - 260) = k by omega]
  · unfold faultI
    rw [if_pos rfl]
/-- a byte behind it turned -/
theorem turn_sum {ty rc rm sd x : Int} {k : Nat} {mk b : Bool} {R : Rw} (h1 : 308 ≤ k) (h2 : k < 334) (hx : x ≠ romF ty rc rm sd k) (x0 : 0 ≤ x) (x1 : x ≤ 255) (hm : MarkIs (putF (romF ty rc rm sd) k 1 (fun _ => x)) mk) : faultI mk (putF (romF ty rc rm sd) k 1 (fun _ => x)) R b n = 43 := by
  obtain rfl : mk = true := by
    rcases hm with ⟨h, _⟩ | ⟨_, i, hi, hne⟩
    · exact h
    · rw [putF_out _ _ (by omega)] at hne
      exact absurd (rom_mark hi) hne
  obtain ⟨j, rfl⟩ : ∃ j, k = 308 + j := ⟨k - 308, by omega⟩
  have hs := sig_put (f := romF ty rc rm sd) (j := j) (x := x) 25
  have hb := romF_byte ty rc rm sd (308 + j)
  have e33 := rom_sum ty rc rm sd
  unfold faultI
  rw [if_neg (by decide), if_pos]
  rw [hs]
  by_cases e : j = 25
  · subst e
    rw [if_neg (by omega), putF_in _ _ (by omega) (by omega), Int.add_zero, ← e33]
    exact hx
  · rw [if_pos (by omega), putF_out _ _ (by omega), e33]
    generalize sig (romF ty rc rm sd) 25 = S at *
    generalize romF ty rc rm sd (308 + j) = y at *
    omega
theorem title_two {ty rc rm sd : Int} {m : Nat} {f : Nat → Int} (h : Hd f (romF ty rc rm sd)) (ht : TitleIs f m) : m = 2 := by
  obtain ⟨h1, h2, h3⟩ := ht
  have p1 := pickI_lo sd 26 (by decide)
  have e8 : f 308 = 65 + pickI sd 26 := by
    rw [h 308 (by omega) (by omega), rom_base (by omega)]
    unfold baseF
    rw [putF_out _ _ (by omega), putF_out _ _ (by omega), putF_out _ _ (by omega), putF_out _ _ (by omega), putF_out _ _ (by omega), putF_in _ _ (by omega) (by omega)]
  have e9 : f 309 = 98 := by
    rw [h 309 (by omega) (by omega), rom_base (by omega)]
    unfold baseF
    rw [putF_out _ _ (by omega), putF_out _ _ (by omega), putF_out _ _ (by omega), putF_out _ _ (by omega), putF_in _ _ (by omega) (by omega)]
  have e10 : f 310 = 0 := by
    rw [h 310 (by omega) (by omega), rom_base (by omega)]
    unfold baseF
    rw [putF_out _ _ (by omega), putF_out _ _ (by omega), putF_out _ _ (by omega), putF_out _ _ (by omega), putF_out _ _ (by omega), putF_out _ _ (by omega), putF_in _ _ (by omega) (by omega)]
  rcases Nat.lt_trichotomy m 2 with hlt | rfl | hgt
  · have : m = 0 ∨ m = 1 := by omega
    have h4 := h3 (by omega)
    rcases this with rfl | rfl
    · rw [show 308 + 0 = 308 from rfl, e8] at h4; omega
    · rw [show 308 + 1 = 309 from rfl, e9] at h4; omega
  · rfl
  · exact absurd e10 (h2 2 (by omega))
/-- the ten types, with the code of their RAM -/
theorem ten_rows : ∀ j : Fin 10, ∃ ty rm : Nat, ∃ R ∈ rowsT, typesV[j.val]? = some (ty : Int) ∧ (rm = 0 ∧ ty ≠ 9 ∧ ty ≠ 3 ∧ ty ≠ 19 ∧ ty ≠ 27 ∨ rm = 2 ∧ (ty = 9 ∨ ty = 3 ∨ ty = 19 ∨ ty = 27)) ∧ R.kind = ty ∧ ty ≤ 255 ∧ 2 ≤ R.banks ∧ R.lo ≤ rm ∧ rm ≤ R.hi := by
  intro j
  match j with
  | ⟨0, _⟩ => exact ⟨0, 0, ⟨0, 0, 2, 0, 0, false⟩, by simp [rowsT], rfl, by decide, rfl, by decide, by decide, by decide, by decide⟩
  | ⟨1, _⟩ => exact ⟨1, 0, ⟨1, 1, 128, 0, 0, false⟩, by simp [rowsT], rfl, by decide, rfl, by decide, by decide, by decide, by decide⟩
  | ⟨2, _⟩ => exact ⟨5, 0, ⟨5, 2, 16, 0, 0, false⟩, by simp [rowsT], rfl, by decide, rfl, by decide, by decide, by decide, by decide⟩
  | ⟨3, _⟩ => exact ⟨17, 0, ⟨17, 3, 128, 0, 0, false⟩, by simp [rowsT], rfl, by decide, rfl, by decide, by decide, by decide, by decide⟩
  | ⟨4, _⟩ => exact ⟨25, 0, ⟨25, 5, 128, 0, 0, false⟩, by simp [rowsT], rfl, by decide, rfl, by decide, by decide, by decide, by decide⟩
  | ⟨5, _⟩ => exact ⟨9, 2, ⟨9, 0, 2, 2, 2, true⟩, by simp [rowsT], rfl, by decide, rfl, by decide, by decide, by decide, by decide⟩
  | ⟨6, _⟩ => exact ⟨3, 2, ⟨3, 1, 128, 2, 3, true⟩, by simp [rowsT], rfl, by decide, rfl, by decide, by decide, by decide, by decide⟩
  | ⟨7, _⟩ => exact ⟨6, 0, ⟨6, 2, 16, 0, 0, true⟩, by simp [rowsT], rfl, by decide, rfl, by decide, by decide, by decide, by decide⟩
  | ⟨8, _⟩ => exact ⟨19, 2, ⟨19, 3, 128, 2, 3, true⟩, by simp [rowsT], rfl, by decide, rfl, by decide, by decide, by decide, by decide⟩
  | ⟨9, _⟩ => exact ⟨27, 2, ⟨27, 5, 128, 2, 5, true⟩, by simp [rowsT], rfl, by decide, rfl, by decide, by decide, by decide, by decide⟩
/-- Check and New where the header is a box's -/
structure Box0 (ty rm : Nat) (R0 : Rw) : Prop where
  mem : R0 ∈ rowsT
  kind : R0.kind = ty
  t8 : ty ≤ 255
  banks : 2 ≤ R0.banks
  lo : R0.lo ≤ rm
  hi : rm ≤ R0.hi
  r8 : rm ≤ 255
theorem hd_none {ty rm : Nat} {sd : Int} {R0 R : Rw} {b mk : Bool} (hB : Box0 ty rm R0) (h : Hd f (romF ty 0 rm sd)) (hr : RowIs (f 327).toNat R b) (hm : MarkIs f mk) : R = R0 ∧ faultI mk f R b 32768 = 0 ∧ (f 328).toNat = 0 ∧ (f 329).toNat = rm := by
  rw [h 327 (by omega) (by omega)] at hr
  rw [h.fault, h 328 (by omega) (by omega), h 329 (by omega) (by omega)]
  exact fault_none (rc := 0) hB.mem hB.kind hB.t8 (by decide) hB.r8 (by simpa using hB.banks) (by decide) hB.lo hB.hi hr (h.mark hm)
def HeadAns (W : World) (ty : Nat) (R0 : Rw) (e : Ending) (w' : World) : Prop := ∃ T rn, e = .returned (.tuple #[.agg #[.string T, .int .i64 (ty : Int), .int .i64 (R0.mapper : Int), .int .i64 2, .int .i64 rn, .bool R0.bat], .int .i64 0]) ∧ T.size = 2 ∧ Up W w'
theorem check_hd {N : Nat} (hN : N = 32768) {ty rm : Nat} {sd : Int} {R0 : Rw} (hT : Tb W) (hB : Box0 ty rm R0) (hW : By W g N f) (h8 : ∀ k, 0 ≤ f k ∧ f k ≤ 255) (h : Hd f (romF ty 0 rm sd)) : Calls Tryd.prog 13 #[.slice (some ⟨g, 0, none⟩) N N] W (HeadAns W ty R0) := by
  subst hN
  refine (check_any hT hW (by decide) (by decide) (Nat.le_refl _) (by decide) h8).mono ?_
  rintro e w' ⟨R, b, mk, hr, hm, u, hcs⟩
  obtain ⟨rfl, hf, e8, e9⟩ := hd_none hB h hr hm
  rcases hcs with ⟨h1, _⟩ | ⟨_, m, ht, he⟩
  · exact absurd hf h1
  · obtain rfl := title_two h ht
    rw [e8, e9] at he
    refine ⟨strF f 308 2, (ramN R rm : Nat), he.trans ?_, strF_size _ _ _, u⟩
    unfold headC
    rw [hB.kind]
    rfl
theorem new_hd {N : Nat} (hN : N = 32768) {ty rm : Nat} {sd : Int} {R0 : Rw} (hT : Tb W) (hB : Box0 ty rm R0) (hW : By W g N f) (h8 : ∀ k, 0 ≤ f k ∧ f k ≤ 255) (h : Hd f (romF ty 0 rm sd)) : Calls Tryd.prog 15 #[.slice (some ⟨g, 0, none⟩) N N, .slice none 0 0] W fun e w' => ∃ A, e = .returned (.tuple #[.pointer (some ⟨A.cb, 0, none⟩), .int .i64 0]) ∧ Seen W A f N 1 w' := by
  subst hN
  refine (new_any hT hW (by decide) (by decide) (Nat.le_refl _) (by decide) h8).mono ?_
  rintro e w' ⟨R, b, mk, hr, hm, u, hcs⟩
  obtain ⟨rfl, hf, e8, e9⟩ := hd_none hB h hr hm
  rcases hcs with ⟨h1, _⟩ | ⟨_, m, A, ht, hc, a1, a2, a3, a4, he⟩
  · exact absurd hf h1
  · rw [e8, e9] at hc
    refine ⟨A, he, ⟨_, ⟨hc, u, a1, a2, a3, a4⟩, rfl, rfl, ?_, ?_⟩, by decide⟩
    · exact lower_zero (by rfl)
    · have key : ∀ i : Fin 14, (Mp.new (rowsT[i.val]'(i.isLt)).mapper).upper = 1 := by decide +kernel
      obtain ⟨i, hi, rfl⟩ := List.mem_iff_getElem.1 hB.mem
      exact key ⟨i, hi⟩
/-- both refuse -/
def faultK (k : Nat) : Int := if k < 308 then 42 else 43
theorem turn_any {ty rm : Nat} {sd x : Int} {k : Nat} {mk b : Bool} {R : Rw} (h1 : 260 ≤ k) (h2 : k < 334) (hx : x ≠ romF ty 0 rm sd k) (x0 : 0 ≤ x) (x1 : x ≤ 255) (hm : MarkIs (putF (romF ty 0 rm sd) k 1 (fun _ => x)) mk) : faultI mk (putF (romF ty 0 rm sd) k 1 (fun _ => x)) R b 32768 = faultK k := by
  unfold faultK
  by_cases e : k < 308
  · rw [if_pos e]; exact turn_mark h1 e hx hm
  · rw [if_neg e]; exact turn_sum (by omega) h2 hx x0 x1 hm
theorem faultK_ne (k : Nat) : faultK k ≠ 0 := by unfold faultK; split <;> decide
theorem check_turn {N : Nat} (hN : N = 32768) {ty rm : Nat} {sd x : Int} {k : Nat} (hT : Tb W) (hf : f = putF (romF ty 0 rm sd) k 1 (fun _ => x)) (hW : By W g N f) (h1 : 260 ≤ k) (h2 : k < 334) (hx : x ≠ romF ty 0 rm sd k) (x0 : 0 ≤ x) (x1 : x ≤ 255) : Calls Tryd.prog 13 #[.slice (some ⟨g, 0, none⟩) N N] W fun e w' => e = .returned (.tuple #[.agg zHead, .int .i64 (faultK k)]) ∧ Up W w' := by
  subst hN
  subst hf
  refine (check_any hT hW (by decide) (by decide) (Nat.le_refl _) (by decide) (putF_byte (romF_byte _ _ _ _) (fun _ => ⟨x0, x1⟩))).mono ?_
  rintro e w' ⟨R, b, mk, hr, hm, u, hcs⟩
  rw [turn_any h1 h2 hx x0 x1 hm] at hcs
  rcases hcs with ⟨_, he⟩ | ⟨h0, _⟩
  · exact ⟨he, u⟩
  · exact absurd h0 (faultK_ne k)
theorem new_turn {N : Nat} (hN : N = 32768) {ty rm : Nat} {sd x : Int} {k : Nat} (hT : Tb W) (hf : f = putF (romF ty 0 rm sd) k 1 (fun _ => x)) (hW : By W g N f) (h1 : 260 ≤ k) (h2 : k < 334) (hx : x ≠ romF ty 0 rm sd k) (x0 : 0 ≤ x) (x1 : x ≤ 255) : Calls Tryd.prog 15 #[.slice (some ⟨g, 0, none⟩) N N, .slice none 0 0] W fun e w' => e = .returned (.tuple #[.pointer none, .int .i64 (faultK k)]) ∧ Up W w' := by
  subst hN
  subst hf
  refine (new_any hT hW (by decide) (by decide) (Nat.le_refl _) (by decide) (putF_byte (romF_byte _ _ _ _) (fun _ => ⟨x0, x1⟩))).mono ?_
  rintro e w' ⟨R, b, mk, hr, hm, u, hcs⟩
  rw [turn_any h1 h2 hx x0 x1 hm] at hcs
  rcases hcs with ⟨_, he⟩ | ⟨h0, _⟩
  · exact ⟨he, u⟩
  · exact absurd h0 (faultK_ne k)
set_option maxRecDepth 100000 in
theorem sameHead_no {T : ByteArray} {a b c d : Int} {e : Bool} (h : T.size = 2) (w : World) : Calls Tryd.prog 16 #[.agg zHead, .agg #[.string T, .int .i64 a, .int .i64 b, .int .i64 c, .int .i64 d, .bool e]] w fun e w' => e = .returned (.bool false) ∧ Up w w' := by
  have hne3 : ¬ (T.toList = []) := fun q => by
    have h2 := decide_eq_emptyBytes T
    rw [q] at h2
    have h3 : T = ByteArray.empty := of_decide_eq_true h2
    rw [h3] at h
    exact absurd h (by decide)
  unfold zHead
  clear h
  go_enter Tryd.func16, Tryd.ntmps16
  go_wp2_with fail
  go_ret
  exact ⟨rfl, by first | exact Up.refl _ | exact Up.drewN _ _ | exact ((Up.refl _).alloc _).alloc _⟩
section
variable {P : Program} {w : World} {ops : Array Oper} {rest : List Oper} {o : Oper} {a : Act} {Q : Exit → Act → World → Prop}
theorem wpList_on (hw : Region.wanted o (yielded ops a.tmps) = true) (h : o.wp P a w (wpList P ops Q rest) Q) : wpList P ops Q (o :: rest) a w := by
  unfold wpList
  rw [if_pos hw]
  exact Or.inl h
end
/-- a cartridge that shows its bank 0 -/
def Sn (A : Ad) (F : Nat → Int) (c : Nat) (w : World) : Prop := ∃ C, CtAt w A C ∧ C.f = F ∧ 16384 ≤ C.n ∧ C.m.lower = 0 ∧ A.cb ≠ c ∧ A.rg ≠ c ∧ A.rb ≠ c ∧ A.mb ≠ c
theorem Seen.sn {A : Ad} {F : Nat → Int} {N k c : Nat} (h : Seen W A F N k w) (hc : c < W.heap.size) : Sn A F c w := by
  obtain ⟨C, h1, h2, h3, h4, h5⟩ := h.at'
  have := h.nk
  have a1 := h1.l1
  have a2 := h1.l2
  have a3 := h1.l3
  have a4 := h1.l4
  exact ⟨C, h1.ct, h2, by rw [h3]; omega, h4, by omega, by omega, by omega, by omega⟩
theorem Sn.up {A : Ad} {F : Nat → Int} {c : Nat} (h : Sn A F c w) (u : Up w w') : Sn A F c w' := by
  obtain ⟨C, h1, h2⟩ := h
  exact ⟨C, h1.up u, h2⟩
theorem By.fr {c : Nat} (h : By w g n f) (u : Fr c w w') (hc : g ≠ c) : By w' g n f := h.of_block (u.block g h.lt hc)
theorem Sn.fr {A : Ad} {F : Nat → Int} {c : Nat} (h : Sn A F c w) (u : Fr c w w') : Sn A F c w' := by
  obtain ⟨C, h, h2, h3, h4, a1, a2, a3, a4⟩ := h
  exact ⟨C, ⟨(u.block A.cb (heap_at h.blk) a1).trans h.blk, h.rom.fr u a2, h.ram.fr u a3, h.mp.fr u a4, h.inn, h.n1, h.n2, h.nc, h.rc, h.rm, h.d1, h.d2, h.d3, h.d4, h.d5, h.d6⟩, h2, h3, h4, a1, a2, a3, a4⟩
theorem Sn.low {A : Ad} {F : Nat → Int} {c : Nat} (h : Sn A F c w) : Calls Tryd.prog 17 #[.pointer (some ⟨A.cb, 0, none⟩), .int .i64 512] w fun e w' => e = .returned (.int .u8 (F 512)) ∧ Up w w' := by
  obtain ⟨C, h1, h2, h3, h4, _⟩ := h
  refine (h1.readLow (a := 512) (by decide)).mono fun e w' ⟨q1, q2⟩ => ⟨?_, q2⟩
  rw [q1, h2, h4, Nat.zero_mul, Nat.zero_add, Nat.mod_eq_of_lt (by omega)]
/-- a byte turned, and turned back -/
theorem xor_turn {x V : Nat} (hx : x ≤ 255) (h1 : 1 ≤ V) (h2 : V ≤ 255) : ∃ y : Nat, bits .xor .u8 (x : Int) (V : Int) = (y : Int) ∧ y ≤ 255 ∧ y ≠ x ∧ bits .xor .u8 (y : Int) (V : Int) = (x : Int) := by
  have hy : x ^^^ V < 256 := Nat.xor_lt_two_pow (n := 8) (by omega) (by omega)
  refine ⟨x ^^^ V, u8_xor_nat x V (by omega) (by omega), by omega, fun e => ?_, ?_⟩
  · have h3 : x ^^^ (x ^^^ V) = x ^^^ x := by rw [e]
    rw [← Nat.xor_assoc, Nat.xor_self, Nat.zero_xor] at h3
    omega
  · rw [u8_xor_nat _ V hy (by omega), Nat.xor_assoc, Nat.xor_self, Nat.xor_zero]
end Go.Proofs.YtpiboooiofjigaaDoor
