import Derived.Test.YtmjfccdhjhkocaaMgA
import Derived.Deep.RegionHeld3
import Derived.Deep.MidRow
import Derived.Laws.BytesArg
/- A scene is set, whatever the picture was. -/
namespace Go.Proofs.Ytmjfccdhjhkocaa
open Go.RowKit
set_option linter.unusedVariables false
variable {b : Nat} {p : Pic}
def rgOf (l : Nat) (f : Nat → Int) (i : Nat) : Int := if i < l then f i else 0
set_option maxRecDepth 100000 in
theorem regG_any {W : World} {ra : Option Addr} {rb ro rl rc : Nat} {f : Nat → Int} (D : Ints W ra rb ro rl rc f) (oa pa : Value) (i : Nat) (hi : i < 12) :
    Calls Try.prog 53 #[.agg #[.slice ra rl rc, oa, pa], .int .i64 (i : Int)] W fun e w' => e = .returned (.int .i64 (regN (rgOf rl f i) i)) ∧ Up W w' := by
  have l1 := D.lc
  have l2 : rc ≤ 9223372036854775807 := by have := D.cm; unfold maxLen at this; omega
  by_cases hl : i < rl
  · obtain rfl := D.ad (by omega)
    have hr := D.i64 i
    have hc := D.cell i hl
    have er : rgOf rl f i = f i := if_pos hl
    rw [er]
    clear er D
    generalize f i = r at *
    have HP : Hid (∀ W, Calls Try.prog 19 #[.int .i64 r, .int .i64 256] W fun e w' => e = .returned (.int .i64 (pickI r 256)) ∧ w' = W) := fun W => pick_any r 256 W hr (by decide) (by decide)
    have a1 := pickI_lo r 256 (by decide)
    have a2 := pickI_hi r 256 (by decide)
    have d1 : decide ((i : Int) < (rl : Int)) = true := decide_eq_true (by omega)
    have i1 : (i : Int) < (rl : Int) := by omega
    have hc2 : (W.alloc (Obj.cells #[.slice (some ⟨rb, ro, none⟩) rl rc, oa, pa] 37)).cell? ⟨rb, ro + i, none⟩ = some (.int .i64 r) := (((Up.refl W).alloc _).cell (World.block_lt_of_cell? _ _ hc)).trans hc
    unfold regN
    clear hr
    generalize pickI r 256 = A at *
    by_cases e0 : i = 0
    · rw [if_pos e0]
      have d0 : ((i : Int) == 0) = true := beq_iff_eq.2 (by omega)
      clear e0
      go_enter Try.func53, Try.ntmps53
      go_wp2_with fail
      refine (HP.out _).mono ?_
      rintro e w' ⟨rfl, hw'⟩
      obtain rfl := hw'.symm
      go_wp2_with fail
      go_ret
      exact ⟨rfl, (Up.refl W).alloc _⟩
    · rw [if_neg e0]
      have d0 : ((i : Int) == 0) = false := beq_eq_false_iff_ne.2 (by omega)
      clear e0
      go_enter Try.func53, Try.ntmps53
      go_wp2_with fail
      refine (HP.out _).mono ?_
      rintro e w' ⟨rfl, hw'⟩
      obtain rfl := hw'.symm
      go_wp2_with fail
      go_ret
      exact ⟨rfl, (Up.refl W).alloc _⟩
  · have er : rgOf rl f i = 0 := if_neg hl
    rw [er]
    have d1 : decide ((i : Int) < (rl : Int)) = false := decide_eq_false (by omega)
    clear er D
    by_cases e0 : i = 0
    · have ev : regN 0 i = 128 := by unfold regN; rw [if_pos e0]; decide
      rw [ev]
      have d0 : ((i : Int) == 0) = true := beq_iff_eq.2 (by omega)
      clear e0 ev
      go_enter Try.func53, Try.ntmps53
      go_wp2_with fail
      go_ret
      exact ⟨rfl, (Up.refl W).alloc _⟩
    · have ev : regN 0 i = 0 := by unfold regN; rw [if_neg e0]; decide
      rw [ev]
      have d0 : ((i : Int) == 0) = false := beq_eq_false_iff_ne.2 (by omega)
      clear e0 ev
      go_enter Try.func53, Try.ntmps53
      go_wp2_with fail
      go_ret
      exact ⟨rfl, (Up.refl W).alloc _⟩
/-- bytes put into memory that holds V -/
def putV (V : Nat → Int) (P : Nat → Pce) : Nat → Nat → Int
  | 0 => V
  | i + 1 => putB (putV V P i) (P i) (P i).len
/-- the sprites' memory, n bytes of it set -/
def oamB (O F : Nat → Int) (l n : Nat) : Nat → Int := fun j => if j < n then (if j < l then F j else 0) else O j
theorem oamB_set (O F : Nat → Int) (l n : Nat) (x : Int) (h : n < l → x = F n) (h2 : ¬ n < l → x = 0) : (fun j => if j = n then x else oamB O F l n j) = oamB O F l (n + 1) := by
  funext j
  unfold oamB
  by_cases e : j = n
  · subst e
    rw [if_pos rfl, if_pos (by omega)]
    by_cases hl : j < l
    · rw [if_pos hl, h hl]
    · rw [if_neg hl, h2 hl]
  · rw [if_neg e]
    by_cases e2 : j < n
    · rw [if_pos e2, if_pos (show j < n + 1 by omega)]
    · rw [if_neg e2, if_neg (show ¬ j < n + 1 by omega)]
theorem oamB0 (O F : Nat → Int) (l : Nat) : O = oamB O F l 0 := by
  funext j
  unfold oamB
  rw [if_neg (by omega)]
/-- registers of one that is switched off -/
def offR (R : Nat → Int) : Nat → Int := fun n => if n = 4 then 0 else if n = 0 then 0 else R n
def regsB (Q R : Nat → Int) (j : Nat) : Nat → Int := fun n => if j ≤ n ∧ n < 12 ∧ n ≠ 1 ∧ n ≠ 4 ∧ n ≠ 5 ∧ n ≠ 6 then regN (R n) n else Q n
theorem regsB_skip (Q R : Nat → Int) (i : Nat) (h : i = 1 ∨ i = 4 ∨ i = 5 ∨ i = 6) : regsB Q R (i + 1) = regsB Q R i := by
  funext n
  unfold regsB
  by_cases e : n = i
  · rw [if_neg (by omega), if_neg (by omega)]
  · by_cases e2 : i + 1 ≤ n ∧ n < 12 ∧ n ≠ 1 ∧ n ≠ 4 ∧ n ≠ 5 ∧ n ≠ 6
    · rw [if_pos e2, if_pos (by omega)]
    · rw [if_neg e2, if_neg (by omega)]
theorem regsB_set (Q R : Nat → Int) (i : Nat) (h : i < 12 ∧ i ≠ 1 ∧ i ≠ 4 ∧ i ≠ 5 ∧ i ≠ 6) : (fun n => if n = i then regN (R i) i else regsB Q R (i + 1) n) = regsB Q R i := by
  funext n
  unfold regsB
  by_cases e : n = i
  · subst e
    rw [if_pos rfl, if_pos (by omega)]
  · rw [if_neg e]
    by_cases e2 : i + 1 ≤ n ∧ n < 12 ∧ n ≠ 1 ∧ n ≠ 4 ∧ n ≠ 5 ∧ n ≠ 6
    · rw [if_pos e2, if_pos (by omega)]
    · rw [if_neg e2, if_neg (by omega)]
theorem cutB_id {x : Int} (x0 : 0 ≤ x) (x1 : x ≤ 255) : cutB x = x := by unfold cutB; simp [IntKind.wrap, IntKind.bits, IntKind.signed]; omega
/-- a picture that is off, of which memory and registers are so -/
structure Sf (W0 : World) (b : Nat) (V O Q : Nat → Int) (W : World) : Prop where
  at' : ∃ q, PxAt W b q ∧ Sane q ∧ q.vr = V ∧ q.oa = O ∧ q.rg = Q ∧ q.clk = 0 ∧ ∀ k, k < 23040 → q.sh k = 0
  fr : Fr b W0 W
theorem Sf.up {W0 W w' : World} {V O Q : Nat → Int} (h : Sf W0 b V O Q W) (u : Up W w') : Sf W0 b V O Q w' := by
  obtain ⟨q, h1, h2⟩ := h.at'
  exact ⟨⟨q, h1.up u, h2⟩, h.fr.trans (Fr.ofUp u)⟩
theorem Sf.write {W0 W : World} {V O Q : Nat → Int} (hQ : Q 0 = 0) (h : Sf W0 b V O Q W) (A : Int) (a1 : 24576 < A) (a2 : A < 40960) (x : Int) (x0 : 0 ≤ x) (x1 : x ≤ 255) :
    Calls Try.prog 18 #[.pointer (some ⟨b, 0, none⟩), .int .i64 A, .int .i64 x] W fun e w' => e = .returned (.tuple #[]) ∧ Sf W0 b (fun j => if 32768 + (j : Int) = A then x else V j) O Q w' := by
  obtain ⟨q, h1, h2, h3, h4, h5, h6, h7⟩ := h.at'
  have ho : q.has 128 = false := by unfold Pic.has; rw [h5, hQ]; decide
  have hl := off_mode ho A
  refine (write_any A x W h1).mono fun e w' ⟨g1, g2, g3⟩ => ⟨g1, ⟨_, g2, h2.wr A x, ?_, ?_, ?_, ?_, ?_⟩, h.fr.trans g3⟩
  all_goals
    unfold Pic.wr
    rw [hl, if_neg (by decide)]
    by_cases ha : A < 32768
    · rw [isV_no (Or.inl ha), isO_no (Or.inl (by omega)), isR_no (Or.inl (by omega)), if_neg (by decide), if_neg (by decide), if_neg (by decide)]
      first
      | exact h4
      | exact h5
      | exact h6
      | exact h7
      | (rw [h3]
         funext j
         rw [if_neg (by omega)])
    · rw [isV_yes (by omega) (by omega), if_pos rfl]
      first
      | exact h4
      | exact h5
      | exact h6
      | exact h7
      | (show (fun j => if j = (A - 32768).toNat then cutB x else q.vr j) = _
         rw [cutB_id x0 x1, h3]
         funext j
         by_cases e : j = (A - 32768).toNat
         · rw [if_pos e, if_pos (by omega)]
         · rw [if_neg e, if_neg (by omega)])
theorem Sf.writeO {W0 W : World} {V O F Q : Nat → Int} {l : Nat} (hQ : Q 0 = 0) (n : Nat) (h : Sf W0 b V (oamB O F l n) Q W) (hn : n < 160) (x : Int) (x0 : 0 ≤ x) (x1 : x ≤ 255) (g1 : n < l → x = F n) (g2 : ¬ n < l → x = 0) :
    Calls Try.prog 18 #[.pointer (some ⟨b, 0, none⟩), .int .i64 (65024 + (n : Int)), .int .i64 x] W fun e w' => e = .returned (.tuple #[]) ∧ Sf W0 b V (oamB O F l (n + 1)) Q w' := by
  obtain ⟨q, h1, h2, h3, h4, h5, h6, h7⟩ := h.at'
  have ho : q.has 128 = false := by unfold Pic.has; rw [h5, hQ]; decide
  refine (writeO_any n hn _ x rfl (off_mode ho _) W h1).mono fun e w' ⟨a1, a2, a3⟩ => ⟨a1, ⟨_, a2, h2.setO n x, h3, ?_, h5, h6, h7⟩, h.fr.trans a3⟩
  show (fun j => if j = n then cutB x else q.oa j) = _
  rw [cutB_id x0 x1, h4]
  exact oamB_set O F l n x g1 g2
theorem Sf.skip {W0 W : World} {V O Q R : Nat → Int} {i : Nat} (h : Sf W0 b V O (regsB Q R (i + 1)) W) (hi : i = 1 ∨ i = 4 ∨ i = 5 ∨ i = 6) : Sf W0 b V O (regsB Q R i) W := by
  rw [← regsB_skip Q R i hi]
  exact h
theorem Sf.writeR {W0 W : World} {V O Q R : Nat → Int} {i : Nat} (hQ : Q 0 = 0) (h : Sf W0 b V O (regsB Q R (i + 1)) W) (hi : i < 12 ∧ i ≠ 1 ∧ i ≠ 4 ∧ i ≠ 5 ∧ i ≠ 6) :
    Calls Try.prog 18 #[.pointer (some ⟨b, 0, none⟩), .int .i64 (65344 + (i : Int)), .int .i64 (regN (R i) i)] W fun e w' => e = .returned (.tuple #[]) ∧ Sf W0 b V O (regsB Q R i) w' := by
  obtain ⟨q, h1, h2, h3, h4, h5, h6, h7⟩ := h.at'
  have rb := regN_b (R i) i
  have ho : q.has 128 = false := by
    unfold Pic.has
    rw [h5]
    unfold regsB
    rw [if_neg (by omega), hQ]
    decide
  have ew : q.wr (65344 + (i : Int)) (regN (R i) i) = q.setR i (regN (R i) i) := by
    unfold Pic.wr
    rw [off_mode ho, if_neg (by decide), isV_no (Or.inr (by omega)), if_neg (by decide), isO_no (Or.inr (by omega)), if_neg (by decide), isR_yes (by omega) (by omega), if_pos rfl, cutB_id rb.1 rb.2, show (65344 + (i : Int) - 65344).toNat = i by omega]
    unfold Pic.wrR
    by_cases e0 : i = 0
    · subst e0
      rw [if_pos rfl]
      unfold Pic.wrL
      rw [if_neg (by rw [ho]; simp)]
    · rw [if_neg e0, if_neg (by omega), if_neg (by omega)]
  have hs := h2.wr (65344 + (i : Int)) (regN (R i) i)
  have hw := write_any (65344 + (i : Int)) (regN (R i) i) W h1
  rw [ew] at hs hw
  refine hw.mono fun e w' ⟨g1, g2, g3⟩ => ⟨g1, ⟨_, g2, hs, h3, h4, ?_, h6, h7⟩, h.fr.trans g3⟩
  show (fun n => if n = i then regN (R i) i else q.rg n) = _
  rw [h5]
  exact regsB_set Q R i hi
theorem Sf.start {W : World} (h : Sane p) (hp : PxAt W b p) :
    Calls Try.prog 18 #[.pointer (some ⟨b, 0, none⟩), .int .i64 65344, .int .i64 0] W fun e w' => e = .returned (.tuple #[]) ∧ Sf W b p.vr p.oa (offR p.rg) w' := by
  refine (write_any 65344 0 W hp).mono fun e w' ⟨g1, g2, g3⟩ => ⟨g1, ⟨_, g2, h.wr _ _, ?_⟩, g3⟩
  have hl : p.locked 65344 = false := by
    unfold Pic.locked
    split
    · decide
    · split <;> decide
  have ew : p.wr 65344 0 = p.wrL 0 := by
    unfold Pic.wr
    rw [hl, if_neg (by decide), if_neg (by decide), if_neg (by decide), if_pos (by decide)]
    rfl
  have h0 : (p.setR 0 0).has 128 = false := by
    unfold Pic.has
    show (bits .and .u8 0 128 != 0) = false
    decide
  rw [ew]
  unfold Pic.wrL
  cases on : p.has 128
  · rw [if_neg (by simp)]
    refine ⟨rfl, rfl, ?_, (h.off on).2.1, (h.off on).2.2⟩
    have e4 := (h.off on).1
    funext n
    show (if n = 0 then 0 else p.rg n) = if n = 4 then 0 else if n = 0 then 0 else p.rg n
    by_cases e : n = 4
    · subst e
      rw [if_pos rfl, if_neg (by decide), e4]
    · rw [if_neg e]
  · rw [if_pos ⟨rfl, h0⟩]
    exact ⟨rfl, rfl, rfl, rfl, fun k hk => if_pos hk⟩
set_option maxRecDepth 100000 in
set_option maxHeartbeats 4000000 in
theorem setG_any {W : World} {ra : Option Addr} {rb ro rl rc : Nat} {f : Nat → Int} {oa : Option Addr} {ob oo ol oc : Nat} {F : Nat → Int} {pa : Option Addr} {pb po pl pc : Nat} {P : Nat → Pce} (hs : Sane p) (hp : PxAt W b p) (DR : ∀ w', Fr b W w' → Ints w' ra rb ro rl rc f) (DO : ∀ w', Fr b W w' → Byts w' oa ob oo ol oc F) (D : ∀ w', Fr b W w' → Pcs w' pa pb po pl pc P) :
    Calls Try.prog 27 #[.agg #[.slice ra rl rc, .slice oa ol oc, .slice pa pl pc], .pointer (some ⟨b, 0, none⟩)] W fun e w' => e = .returned (.tuple #[]) ∧ Sf W b (putV p.vr P pl) (oamB p.oa F ol 160) (regsB (offR p.rg) (rgOf rl f) 0) w' := by
  have hbl := hp.lt
  have HP : Hid (PxAt (W.alloc (Obj.cells #[.slice ra rl rc, .slice oa ol oc, .slice pa pl pc] 37)) b p ∧ Sane p) := ⟨hp.up ((Up.refl W).alloc _), hs⟩
  have HD : Hid _ := D
  have HDO : Hid _ := DO
  have ol1 := (DO W (Fr.refl b W)).lc
  have ol2 : oc ≤ 9223372036854775807 := by have := (DO W (Fr.refl b W)).cm; unfold maxLen at this; omega
  have dl := (D W (Fr.refl b W)).lc
  have dc : pc ≤ 9223372036854775807 := by have := (D W (Fr.refl b W)).cm; unfold maxLen at this; omega
  obtain ⟨sb, hsb⟩ : ∃ sb, sb = W.heap.size := ⟨_, rfl⟩
  have hs2 : (W.alloc (Obj.cells #[.slice ra rl rc, .slice oa ol oc, .slice pa pl pc] 37)).heap[sb]? = some (.cells #[.slice ra rl rc, .slice oa ol oc, .slice pa pl pc] 37 (0, 0)) := by rw [hsb]; exact heap_alloc_new W _
  have HS : Hid (∀ w', Fr b (W.alloc (Obj.cells #[.slice ra rl rc, .slice oa ol oc, .slice pa pl pc] 37)) w' → w'.heap[sb]? = some (.cells #[.slice ra rl rc, .slice oa ol oc, .slice pa pl pc] 37 (0, 0))) := fun w' f => (f.block sb (by rw [hsb]; simp) (by omega)).trans hs2
  have HF : Hid (∀ w', Fr b (W.alloc (Obj.cells #[.slice ra rl rc, .slice oa ol oc, .slice pa pl pc] 37)) w' → Fr b W w') := fun w' f => (Fr.ofUp ((Up.refl W).alloc _)).trans f
  have HRg : Hid (∀ w', Fr b W w' → Ints w' ra rb ro rl rc f) := DR
  have q0 : Hid (offR p.rg 0 = 0) := rfl
  clear hp hs D DO hs2 DR
  have HST : Hid (∀ w, PxAt w b p → Calls Try.prog 18 #[.pointer (some ⟨b, 0, none⟩), .int .i64 65344, .int .i64 0] w fun e w' => e = .returned (.tuple #[]) ∧ Sf w b p.vr p.oa (offR p.rg) w') := fun w h => Sf.start HP.out.2 h
  generalize p.vr = V at *
  generalize p.oa = O at *
  generalize offR p.rg = Q at *
  generalize hR : rgOf rl f = R at *
  have HRR : Hid (rgOf rl f = R) := hR
  clear hR
  go_enter Try.func27, Try.ntmps27
  go_wp2_with fail
  rw [← hsb]
  clear hsb hbl
  generalize World.alloc W _ = W1 at HP HS HF ⊢
  refine (HST.out W1 HP.out.1).mono ?_
  rintro e w2 ⟨rfl, h2⟩
  have H2 : Hid (Sf W1 b V (oamB O F ol 0) Q w2) := by rw [← oamB0 O F ol]; exact h2
  clear h2 HP HST
  go_wp2_with fail
  go_loopw [4] (fun I wr => ∃ i : Nat, i ≤ pl ∧ I = .int .i64 i ∧ Hid (Sf W1 b (putV V P i) (oamB O F ol 0) Q wr)) (fun I _ => pl - (intOf I).toNat)
  case atStart => exact ⟨0, by omega, rfl, H2⟩
  case round =>
    clear H2
    obtain ⟨i, hi, rfl, M0⟩ := hrel
    have ks : wr.cell? ⟨sb, 2, none⟩ = some (.slice pa pl pc) := by rw [cell_of_row _ _ _ _ _ _ (HS.out _ M0.out.fr)]; rfl
    by_cases hlt : i < pl
    · have d1 : decide ((i : Int) < (pl : Int)) = true := decide_eq_true (by omega)
      have e1 : (i : Int) < (pl : Int) := by omega
      have dd := HD.out wr (HF.out _ M0.out.fr)
      obtain rfl := dd.ad (by omega)
      have k1 := dd.c1 i hlt
      have bd := dd.by' i hlt
      have b1 := bd.lc
      have b2 : (P i).cap ≤ 9223372036854775807 := by have := bd.cm; unfold maxLen at this; omega
      clear dd bd
      go_wp2_with fail
      obtain ⟨wo, rfl⟩ : ∃ wo : World, wo = wr := ⟨_, rfl⟩
      go_loopw [5] (fun I wr => ∃ k : Nat, k ≤ (P i).len ∧ I = .int .i64 k ∧ Hid (Sf W1 b (putB (putV V P i) (P i) k) (oamB O F ol 0) Q wr)) (fun I _ => (P i).len - (intOf I).toNat)
      case atStart => exact ⟨0, by omega, rfl, M0⟩
      case round =>
        clear M0 ks k1
        obtain ⟨k, hk, rfl, M1⟩ := hrel
        have ks : wr.cell? ⟨sb, 2, none⟩ = some (.slice (some ⟨pb, po, none⟩) pl pc) := by rw [cell_of_row _ _ _ _ _ _ (HS.out _ M1.out.fr)]; rfl
        have dd := HD.out wr (HF.out _ M1.out.fr)
        have k0 := dd.c0 i hlt
        have k1 := dd.c1 i hlt
        have bd := dd.by' i hlt
        have hat := dd.i64 i
        by_cases hlk : k < (P i).len
        · have d2 : decide ((k : Int) < ((P i).len : Int)) = true := decide_eq_true (by omega)
          have e2 : (k : Int) < ((P i).len : Int) := by omega
          rw [bd.ad (by omega)] at k1
          have kb := bd.cell k hlk
          have x0 := (bd.u8 k).1
          have x1 := (bd.u8 k).2
          have HSp : Hid (∀ W v, Calls Try.prog 52 #[.agg #[.int .i64 (P i).at', v], .int .i64 (k : Int)] W fun e w' => e = .returned (.int .i64 (spotI (P i).at' k)) ∧ Up W w') := fun W v => spot_any _ hat v k (by omega) W
          have HWr : Hid (∀ W, Up wr W → Calls Try.prog 18 #[.pointer (some ⟨b, 0, none⟩), .int .i64 (spotI (P i).at' k), .int .i64 ((P i).f k)] W fun e w' => e = .returned (.tuple #[]) ∧ Sf W1 b (putB (putV V P i) (P i) (k + 1)) (oamB O F ol 0) Q w') := fun W u => (M1.out.up u).write q0.out _ (spotI_lo _ _) (spotI_hi _ _) _ x0 x1
          clear dd bd hat M1
          have HK : Hid (∀ w', Up wr w' → w'.cell? ⟨sb, 2, none⟩ = some (.slice (some ⟨pb, po, none⟩) pl pc) ∧ w'.cell? ⟨pb, po + i * 2, none⟩ = some (.int .i64 (P i).at') ∧ w'.cell? ⟨pb, po + i * 2 + 1, none⟩ = some (.slice (some ⟨(P i).ab, (P i).ao, none⟩) (P i).len (P i).cap) ∧ w'.cell? ⟨(P i).ab, (P i).ao + k, none⟩ = some (.int .u8 ((P i).f k))) := fun w' u =>
            ⟨(u.cell (World.block_lt_of_cell? _ _ ks)).trans ks, (u.cell (World.block_lt_of_cell? _ _ k0)).trans k0, (u.cell (World.block_lt_of_cell? _ _ k1)).trans k1, (u.cell (World.block_lt_of_cell? _ _ kb)).trans kb⟩
          have HK6 : Hid (∀ w', Sf W1 b (putB (putV V P i) (P i) (k + 1)) (oamB O F ol 0) Q w' → w'.cell? ⟨sb, 2, none⟩ = some (.slice (some ⟨pb, po, none⟩) pl pc) ∧ w'.cell? ⟨pb, po + i * 2, none⟩ = some (.int .i64 (P i).at') ∧ w'.cell? ⟨pb, po + i * 2 + 1, none⟩ = some (.slice (some ⟨(P i).ab, (P i).ao, none⟩) (P i).len (P i).cap) ∧ w'.cell? ⟨(P i).ab, (P i).ao + k, none⟩ = some (.int .u8 ((P i).f k))) := fun w' s => by
            have dd := HD.out w' (HF.out _ s.fr)
            have bd := dd.by' i hlt
            refine ⟨by rw [cell_of_row _ _ _ _ _ _ (HS.out _ s.fr)]; rfl, dd.c0 i hlt, ?_, bd.cell k hlk⟩
            rw [← bd.ad (by omega)]
            exact dd.c1 i hlt
          have HU : Hid (Up wr wr.drew) := (Up.refl _).drew
          generalize (P i).f k = X at *
          generalize spotI (P i).at' k = SP at *
          generalize (P i).ab = bb at *
          generalize (P i).ao = bo at *
          generalize (P i).at' = AT at *
          generalize (P i).cap = CA at *
          generalize (P i).len = LE at *
          go_wp2_with fail
          clear ks k0 k1 kb
          refine wp_region_held_drew (S := (fun w' => w'.cell? ⟨sb, 2, none⟩ = some (.slice (some ⟨pb, po, none⟩) pl pc) ∧ w'.cell? ⟨pb, po + i * 2, none⟩ = some (.int .i64 AT) ∧ w'.cell? ⟨pb, po + i * 2 + 1, none⟩ = some (.slice (some ⟨bb, bo, none⟩) LE CA) ∧ w'.cell? ⟨bb, bo + k, none⟩ = some (.int .u8 X))) (by kernel_rfl) ?_ (fun hHeld => ?_)
          · (try dsimp only); exact HK.out _ HU.out
          refine wpAnyH_take (i := 0) (v := ?_) (by simp only [List.getElem?_toArray, List.getElem?_cons_zero]; rfl) (by kernel_rfl) (by kernel_rfl) (by kernel_rfl) (by intro _ _ _ h; exact h) (Or.inl ⟨by rfl, ?_⟩) (by assumption) ?_
          rotate_left
          · (intro w hSw; (try dsimp only at hSw); go_simp <;> with_reducible rfl)
          try simp only [Act.put, List.setIfInBounds_toArray, List.set_cons_zero, List.set_cons_succ]
          refine wpAnyH_take (i := 1) (v := ?_) (by simp only [List.getElem?_toArray, List.getElem?_cons_succ, List.getElem?_cons_zero]; rfl) (by kernel_rfl) (by kernel_rfl) (by kernel_rfl) (by intro _ _ _ h; exact h) (Or.inl ⟨by rfl, ?_⟩) (by assumption) ?_
          rotate_left
          · (intro w hSw; (try dsimp only at hSw); go_simp <;> with_reducible rfl)
          try simp only [Act.put, List.setIfInBounds_toArray, List.set_cons_zero, List.set_cons_succ]
          refine wpAnyH_take (i := 2) (v := ?_) (by simp only [List.getElem?_toArray, List.getElem?_cons_succ, List.getElem?_cons_zero]; rfl) (by kernel_rfl) (by kernel_rfl) (by kernel_rfl) (by intro _ _ _ h; exact h) (Or.inl ⟨by rfl, ?_⟩) (by assumption) ?_
          rotate_left
          · (intro w hSw; (try dsimp only at hSw); go_simp <;> with_reducible rfl)
          try simp only [Act.put, List.setIfInBounds_toArray, List.set_cons_zero, List.set_cons_succ]
          refine wpAnyH_take (i := 3) (v := ?_) (by simp only [List.getElem?_toArray, List.getElem?_cons_succ, List.getElem?_cons_zero]; rfl) (by kernel_rfl) (by kernel_rfl) (by kernel_rfl) (by intro _ _ _ h; exact h) (Or.inl ⟨by rfl, ?_⟩) (by assumption) ?_
          rotate_left
          · (intro w hSw; (try dsimp only at hSw); go_simp <;> with_reducible rfl)
          try simp only [Act.put, List.setIfInBounds_toArray, List.set_cons_zero, List.set_cons_succ]
          refine wpAnyH_take (i := 4) (v := ?_) (by simp only [List.getElem?_toArray, List.getElem?_cons_succ, List.getElem?_cons_zero]; rfl) (by kernel_rfl) (by kernel_rfl) (by kernel_rfl) (by intro _ _ _ h; exact h) (Or.inl ⟨by rfl, ?_⟩) (by assumption) ?_
          rotate_left
          · (intro w hSw; (try dsimp only at hSw); go_simp <;> with_reducible rfl)
          try simp only [Act.put, List.setIfInBounds_toArray, List.set_cons_zero, List.set_cons_succ]
          refine wpAnyH_take (i := 5) (v := .agg [.int .i64 AT, .slice (some ⟨bb, bo, none⟩) LE CA].toArray) (by simp only [List.getElem?_toArray, List.getElem?_cons_succ, List.getElem?_cons_zero]; rfl) (by kernel_rfl) (by kernel_rfl) (by kernel_rfl) (by intro _ _ _ h; exact h) (yieldsIf_load_mid (by rfl) 55 _ rfl pb (po + i * 2) rfl [.int .i64 AT, .slice (some ⟨bb, bo, none⟩) LE CA] _ (fun w hw => range2 hw.2.1 hw.2.2.1) Try.underlying55 rfl (by kernel_rfl)) (by assumption) ?_
          simp only [Act.put, List.setIfInBounds_toArray, List.set_cons_zero, List.set_cons_succ]
          refine wpAnyH_take (i := 6) (v := ?_) (by simp only [List.getElem?_toArray, List.getElem?_cons_succ, List.getElem?_cons_zero]; rfl) (by kernel_rfl) (by kernel_rfl) (by kernel_rfl) (by intro _ _ _ h; exact h) (Or.inl ⟨by rfl, ?_⟩) (by assumption) ?_
          rotate_left
          · (intro w hSw; (try dsimp only at hSw); go_simp <;> with_reducible rfl)
          try simp only [Act.put, List.setIfInBounds_toArray, List.set_cons_zero, List.set_cons_succ]
          refine wpAnyH_take (i := 8) (v := ?_) (by simp only [List.getElem?_toArray, List.getElem?_cons_succ, List.getElem?_cons_zero]; rfl) (by kernel_rfl) (by kernel_rfl) (by kernel_rfl) (by intro _ _ _ h; exact h) (Or.inl ⟨by rfl, ?_⟩) (by assumption) ?_
          rotate_left
          · (intro w hSw; (try dsimp only at hSw); go_simp <;> with_reducible rfl)
          try simp only [Act.put, List.setIfInBounds_toArray, List.set_cons_zero, List.set_cons_succ]
          refine wpAnyH_take (i := 9) (v := ?_) (by simp only [List.getElem?_toArray, List.getElem?_cons_succ, List.getElem?_cons_zero]; rfl) (by kernel_rfl) (by kernel_rfl) (by kernel_rfl) (by intro _ _ _ h; exact h) (Or.inl ⟨by rfl, ?_⟩) (by assumption) ?_
          rotate_left
          · (intro w hSw; (try dsimp only at hSw); go_simp <;> with_reducible rfl)
          try simp only [Act.put, List.setIfInBounds_toArray, List.set_cons_zero, List.set_cons_succ]
          refine wpAnyH_take (i := 10) (v := ?_) (by simp only [List.getElem?_toArray, List.getElem?_cons_succ, List.getElem?_cons_zero]; rfl) (by kernel_rfl) (by kernel_rfl) (by kernel_rfl) (by intro _ _ _ h; exact h) (Or.inl ⟨by rfl, ?_⟩) (by assumption) ?_
          rotate_left
          · (intro w hSw; (try dsimp only at hSw); go_simp <;> with_reducible rfl)
          try simp only [Act.put, List.setIfInBounds_toArray, List.set_cons_zero, List.set_cons_succ]
          refine wpAnyH_take (i := 11) (v := ?_) (by simp only [List.getElem?_toArray, List.getElem?_cons_succ, List.getElem?_cons_zero]; rfl) (by kernel_rfl) (by kernel_rfl) (by kernel_rfl) (by intro _ _ _ h; exact h) (Or.inl ⟨by rfl, ?_⟩) (by assumption) ?_
          rotate_left
          · (intro w hSw; (try dsimp only at hSw); go_simp <;> with_reducible rfl)
          try simp only [Act.put, List.setIfInBounds_toArray, List.set_cons_zero, List.set_cons_succ]
          refine wpAnyH_take (i := 12) (v := ?_) (by simp only [List.getElem?_toArray, List.getElem?_cons_succ, List.getElem?_cons_zero]; rfl) (by kernel_rfl) (by kernel_rfl) (by kernel_rfl) (by intro _ _ _ h; exact h) (Or.inl ⟨by rfl, ?_⟩) (by assumption) ?_
          rotate_left
          · (intro w hSw; (try dsimp only at hSw); go_simp <;> with_reducible rfl)
          try simp only [Act.put, List.setIfInBounds_toArray, List.set_cons_zero, List.set_cons_succ]
          refine wpAnyH_take (i := 13) (v := ?_) (by simp only [List.getElem?_toArray, List.getElem?_cons_succ, List.getElem?_cons_zero]; rfl) (by kernel_rfl) (by kernel_rfl) (by kernel_rfl) (by intro _ _ _ h; exact h) (Or.inl ⟨by rfl, ?_⟩) (by assumption) ?_
          rotate_left
          · (intro w hSw; (try dsimp only at hSw); go_simp <;> with_reducible rfl)
          try simp only [Act.put, List.setIfInBounds_toArray, List.set_cons_zero, List.set_cons_succ]
          refine wpAnyH_take (i := 14) (v := ?_) (by simp only [List.getElem?_toArray, List.getElem?_cons_succ, List.getElem?_cons_zero]; rfl) (by kernel_rfl) (by kernel_rfl) (by kernel_rfl) (by intro _ _ _ h; exact h) (Or.inl ⟨by rfl, ?_⟩) (by assumption) ?_
          rotate_left
          · (intro w hSw; (try dsimp only at hSw); go_simp <;> with_reducible rfl)
          try simp only [Act.put, List.setIfInBounds_toArray, List.set_cons_zero, List.set_cons_succ]
          refine wpAnyH_take (i := 15) (v := ?_) (by simp only [List.getElem?_toArray, List.getElem?_cons_succ, List.getElem?_cons_zero]; rfl) (by kernel_rfl) (by kernel_rfl) (by kernel_rfl) (by intro _ _ _ h; exact h) (Or.inl ⟨by rfl, ?_⟩) (by assumption) ?_
          rotate_left
          · (intro w hSw; (try dsimp only at hSw); go_simp <;> with_reducible rfl)
          try simp only [Act.put, List.setIfInBounds_toArray, List.set_cons_zero, List.set_cons_succ]
          refine wpAnyH_take (i := 16) (v := ?_) (by simp only [List.getElem?_toArray, List.getElem?_cons_succ, List.getElem?_cons_zero]; rfl) (by kernel_rfl) (by kernel_rfl) (by kernel_rfl) (by intro _ _ _ h; exact h) (Or.inl ⟨by rfl, ?_⟩) (by assumption) ?_
          rotate_left
          · (intro w hSw; (try dsimp only at hSw); go_simp <;> with_reducible rfl)
          try simp only [Act.put, List.setIfInBounds_toArray, List.set_cons_zero, List.set_cons_succ]
          refine wpAnyH_take (i := 17) (v := ?_) (by simp only [List.getElem?_toArray, List.getElem?_cons_succ, List.getElem?_cons_zero]; rfl) (by kernel_rfl) (by kernel_rfl) (by kernel_rfl) (by intro _ _ _ h; exact h) (Or.inl ⟨by rfl, ?_⟩) (by assumption) ?_
          rotate_left
          · (intro w hSw; (try dsimp only at hSw); go_simp <;> with_reducible rfl)
          try simp only [Act.put, List.setIfInBounds_toArray, List.set_cons_zero, List.set_cons_succ]
          refine wpAnyH_ready (rs := [7]) (by kernel_rfl) (by simp) ?_
          refine AllReadyH.cons (by simp only [List.getElem?_toArray, List.getElem?_cons_succ, List.getElem?_cons_zero]; rfl) (fun K hK => ?_) AllReadyH.nil
          go_simp
          refine (HSp.out _ _).mono ?_
          rintro e w5 ⟨rfl, u5⟩
          refine hK.out _ _ ?_ (fun _ => ?_)
          · (try dsimp only); exact HK.out _ (HU.out.trans u5)
          clear hK K
          try simp only [Act.put, List.setIfInBounds_toArray, List.set_cons_zero, List.set_cons_succ]
          refine wpAnyH_ready (rs := [18]) (by kernel_rfl) (by simp) ?_
          refine AllReadyH.cons (by simp only [List.getElem?_toArray, List.getElem?_cons_succ, List.getElem?_cons_zero]; rfl) (fun K hK => ?_) AllReadyH.nil
          go_simp
          rw [show IntKind.i64.wrap X = X by simp [IntKind.wrap, IntKind.bits, IntKind.signed]; omega]
          refine (HWr.out _ (HU.out.trans u5)).mono ?_
          rintro e w6 ⟨rfl, h6⟩
          refine hK.out _ _ ?_ (fun _ => ?_)
          · (try dsimp only); exact HK6.out _ h6
          clear hK K
          try simp only [Act.put, List.setIfInBounds_toArray, List.set_cons_zero, List.set_cons_succ]
          refine wpAnyH_done (by kernel_rfl) ?_ _
          have H6 : Hid _ := h6
          clear h6
          go_wp2_with fail
          refine ⟨⟨k + 1, by omega, ?_, H6⟩, ?_⟩
          · first | rfl | (simp; done)
          · simp [intOf]
            omega
        · have d2 : decide ((k : Int) < ((P i).len : Int)) = false := decide_eq_false (by omega)
          have ek : k = (P i).len := by omega
          have M2 : Hid (Sf W1 b (putV V P (i + 1)) (oamB O F ol 0) Q wr) := by show Sf W1 b (putB (putV V P i) (P i) (P i).len) (oamB O F ol 0) Q wr; rw [← ek]; exact M1.out
          clear dd bd k0 hat M1 ek
          go_wp2_with fail
          refine ⟨⟨i + 1, by omega, ?_, M2⟩, ?_⟩
          · first | rfl | (simp; done)
          · simp [intOf]
            omega
    · have d1 : decide ((i : Int) < (pl : Int)) = false := decide_eq_false (by omega)
      have ei : i = pl := by omega
      have M1 : Hid (Sf W1 b (putV V P pl) (oamB O F ol 0) Q wr) := by show Sf _ _ _ _ _ _; rw [← ei]; exact M0.out
      clear M0 ei
      go_wp2_with fail
      go_loopw [6] (fun I wr => ∃ n : Nat, n ≤ 160 ∧ I = .int .i64 n ∧ Hid (Sf W1 b (putV V P pl) (oamB O F ol n) Q wr)) (fun I _ => 160 - (intOf I).toNat)
      case atStart => exact ⟨0, by omega, rfl, M1⟩
      case round =>
        clear M1 ks
        obtain ⟨n, hn, rfl, M2⟩ := hrel
        have ks : wr.cell? ⟨sb, 1, none⟩ = some (.slice oa ol oc) := by rw [cell_of_row _ _ _ _ _ _ (HS.out _ M2.out.fr)]; rfl
        by_cases hln : n < 160
        · have d3 : decide ((n : Int) < 160) = true := decide_eq_true (by omega)
          have e3 : (n : Int) < 160 := by omega
          by_cases hol : n < ol
          · have d4 : decide ((n : Int) < (ol : Int)) = true := decide_eq_true (by omega)
            have e4 : (n : Int) < (ol : Int) := by omega
            have bo := HDO.out wr (HF.out _ M2.out.fr)
            rw [bo.ad (by omega)] at ks
            have kb := bo.cell n hol
            have x0 := (bo.u8 n).1
            have x1 := (bo.u8 n).2
            have HW0 : Hid _ := Sf.writeO q0.out n M2.out hln (F n) x0 x1 (fun _ => rfl) (fun h => absurd hol h)
            clear bo
            have ew : IntKind.i64.wrap (F n) = F n := by simp [IntKind.wrap, IntKind.bits, IntKind.signed]; omega
            go_wp2_with fail
            first | rw [ew] | skip
            refine Calls.mono HW0.out ?_
            rintro e w4 ⟨rfl, h4⟩
            have H4 : Hid _ := h4
            clear h4 HW0 M2
            go_wp2_with fail
            refine ⟨⟨n + 1, by omega, ?_, H4⟩, ?_⟩
            · first | rfl | (simp; done)
            · simp [intOf]
              omega
          · have d4 : decide ((n : Int) < (ol : Int)) = false := decide_eq_false (by omega)
            have HW0 : Hid _ := Sf.writeO q0.out n M2.out hln 0 (by decide) (by decide) (fun h => absurd h hol) (fun _ => rfl)
            go_wp2_with fail
            refine Calls.mono HW0.out ?_
            rintro e w4 ⟨rfl, h4⟩
            have H4 : Hid _ := h4
            clear h4 HW0 M2
            go_wp2_with fail
            refine ⟨⟨n + 1, by omega, ?_, H4⟩, ?_⟩
            · first | rfl | (simp; done)
            · simp [intOf]
              omega
        · have d3 : decide ((n : Int) < 160) = false := decide_eq_false (by omega)
          have en : n = 160 := by omega
          have M2 : Hid (Sf W1 b (putV V P pl) (oamB O F ol 160) Q wr) := by show Sf _ _ _ _ _ _; rw [← en]; exact M2.out
          clear en
          have M3 : Hid (Sf W1 b (putV V P pl) (oamB O F ol 160) (regsB Q R 12) wr) := by
            have e12 : regsB Q R 12 = Q := by
              funext n
              unfold regsB
              rw [if_neg (by omega)]
            show Sf _ _ _ _ _ _
            rw [e12]
            exact M2.out
          clear M2 ks
          go_wp2_with fail
          go_loopw [8] (fun I wr => ∃ j : Nat, j ≤ 12 ∧ I = .int .i64 ((j : Int) - 1) ∧ Hid (Sf W1 b (putV V P pl) (oamB O F ol 160) (regsB Q R j) wr)) (fun I _ => (intOf I + 1).toNat)
          case atStart => exact ⟨12, by omega, rfl, M3⟩
          case round =>
            clear M3
            obtain ⟨j, hj, rfl, M4⟩ := hrel
            by_cases hj0 : j = 0
            · subst hj0
              go_wp2_with fail
              go_end0
              exact ⟨rfl, M4.out.at', HF.out _ M4.out.fr⟩
            · obtain ⟨i2, rfl⟩ : ∃ i2, j = i2 + 1 := ⟨j - 1, by omega⟩
              have ej : ((i2 + 1 : Nat) : Int) - 1 = (i2 : Int) := by omega
              rw [ej]
              clear ej hj0
              have dge : decide (0 ≤ (i2 : Int)) = true := decide_eq_true (by omega)
              by_cases hsk : i2 = 1 ∨ i2 = 4 ∨ i2 = 5 ∨ i2 = 6
              · have M5 : Hid _ := M4.out.skip hsk
                clear M4
                rcases hsk with rfl | rfl | rfl | rfl <;>
                · go_wp2_with fail
                  refine ⟨⟨_, ?_, ?_, M5⟩, ?_⟩
                  · omega
                  · first | rfl | (simp; done)
                  · simp [intOf]
              · have q1 : ((i2 : Int) != 1) = true := bne_iff_ne.2 (by omega)
                have q4 : ((i2 : Int) != 4) = true := bne_iff_ne.2 (by omega)
                have q5 : ((i2 : Int) != 5) = true := bne_iff_ne.2 (by omega)
                have q6 : ((i2 : Int) != 6) = true := bne_iff_ne.2 (by omega)
                have p1 : ¬ (i2 : Int) = 1 := by omega
                have p4 : ¬ (i2 : Int) = 4 := by omega
                have p5 : ¬ (i2 : Int) = 5 := by omega
                have p6 : ¬ (i2 : Int) = 6 := by omega
                have hi2 : i2 < 12 := by omega
                have hlt2 : (i2 : Int) < 12 := by omega
                have hsb := HS.out _ M4.out.fr
                have HRa : Hid (wr.rangeAt sb 0 [.slice ra rl rc, .slice oa ol oc, .slice pa pl pc]) := range3 (by rw [cell_of_row _ _ _ _ _ _ hsb]; rfl) (by rw [cell_of_row _ _ _ _ _ _ hsb]; rfl) (by rw [cell_of_row _ _ _ _ _ _ hsb]; rfl)
                have HRe : Hid _ := regG_any (HRg.out wr (HF.out _ M4.out.fr)) (.slice oa ol oc) (.slice pa pl pc) i2 hi2
                rw [HRR.out] at HRe
                have HWe : Hid (∀ w', Up wr w' → _) := fun w' (u : Up wr w') => (M4.out.up u).writeR q0.out (by omega)
                clear hsb M4 hsk
                generalize regN (R i2) i2 = RV at *
                go_wp2_with (refine wpList_load_mid rfl 37 _ rfl sb 0 rfl [.slice ra rl rc, .slice oa ol oc, .slice pa pl pc] _ HRa.out Try.underlying37 rfl (by kernel_rfl) ?_)
                refine Calls.mono HRe.out ?_
                rintro e w5 ⟨rfl, u5⟩
                have HU5 : Hid _ := u5
                clear u5
                go_wp2_with fail
                refine (HWe.out _ HU5.out).mono ?_
                rintro e w6 ⟨rfl, h6⟩
                have H6 : Hid _ := h6
                clear h6 HWe HU5 HRe HRa
                go_wp2_with fail
                refine ⟨⟨i2, by omega, ?_, H6⟩, ?_⟩
                · first | rfl | (simp; done)
                · simp [intOf]
end Go.Proofs.Ytmjfccdhjhkocaa
/- Scenes, whatever they are: set, and shown. -/
namespace Go.Proofs.Ytmjfccdhjhkocaa
open Go.RowKit
set_option linter.unusedVariables false
variable {b : Nat} {p : Pic}
/-- a scene as it lies -/
structure Sce where
  ra : Option Addr
  rb : Nat
  ro : Nat
  rl : Nat
  rc : Nat
  f : Nat → Int
  oa : Option Addr
  ob : Nat
  oo : Nat
  ol : Nat
  oc : Nat
  F : Nat → Int
  pa : Option Addr
  pb : Nat
  po : Nat
  pl : Nat
  pc : Nat
  P : Nat → Pce
structure ScAt (W : World) (s : Sce) : Prop where
  ints : Ints W s.ra s.rb s.ro s.rl s.rc s.f
  byts : Byts W s.oa s.ob s.oo s.ol s.oc s.F
  pcs : Pcs W s.pa s.pb s.po s.pl s.pc s.P
theorem Byts.upT {W W' : World} {aa : Option Addr} {ab ao len cap : Nat} {f : Nat → Int} (h : Byts W aa ab ao len cap f) (u : Up W W') : Byts W' aa ab ao len cap f :=
  ⟨h.lc, h.cm, h.ad, h.u8, fun k hk => (u.cell (World.block_lt_of_cell? _ _ (h.cell k hk))).trans (h.cell k hk)⟩
theorem ScAt.up {W W' : World} {s : Sce} (h : ScAt W s) (u : Up W W') : ScAt W' s :=
  ⟨⟨h.ints.lc, h.ints.cm, h.ints.ad, h.ints.i64, fun k hk => (u.cell (World.block_lt_of_cell? _ _ (h.ints.cell k hk))).trans (h.ints.cell k hk)⟩,
   h.byts.upT u,
   ⟨h.pcs.lc, h.pcs.cm, h.pcs.ad, h.pcs.i64, fun k hk => (u.cell (World.block_lt_of_cell? _ _ (h.pcs.c0 k hk))).trans (h.pcs.c0 k hk), fun k hk => (u.cell (World.block_lt_of_cell? _ _ (h.pcs.c1 k hk))).trans (h.pcs.c1 k hk), fun k hk => (h.pcs.by' k hk).upT u⟩⟩
def Sce.val (s : Sce) : Value := .agg #[.slice s.ra s.rl s.rc, .slice s.oa s.ol s.oc, .slice s.pa s.pl s.pc]
def Sce.V (s : Sce) : Nat → Int := putV (fun _ => 0) s.P s.pl
def Sce.O (s : Sce) : Nat → Int := oamB (fun _ => 0) s.F s.ol 160
def Sce.R (s : Sce) : Nat → Int := regsB (fun _ => 0) (rgOf s.rl s.f) 0
/-- the frame that a scene makes -/
def Sce.frame (s : Sce) (M : Nat) : Nat → Int := frameF M s.V s.O s.R
theorem Sce.R_on (s : Sce) : (bits .and .u8 (s.R 0) 128 != 0) = true := by
  unfold Sce.R regsB
  rw [if_pos (by decide)]
  unfold regN
  rw [if_pos rfl]
  exact (or128_b _ (pickI_lo _ 256 (by decide)) (by have := pickI_hi (rgOf s.rl s.f 0) 256 (by decide); omega)).2
theorem Sce.R_4 (s : Sce) : s.R 4 = 0 := by
  unfold Sce.R regsB
  rw [if_neg (by omega)]
/-- a picture in which nothing but a scene's memory and registers is -/
structure Bl (p : Pic) : Prop where
  vr : p.vr = fun _ => 0
  oa : ∀ j, 160 ≤ j → p.oa j = 0
  rg : ∀ j, j = 1 ∨ j = 5 ∨ j = 6 ∨ 12 ≤ j → p.rg j = 0
theorem Bl.V (h : Bl p) (s : Sce) : putV p.vr s.P s.pl = s.V := by rw [h.vr]; rfl
theorem Bl.O (h : Bl p) (s : Sce) : oamB p.oa s.F s.ol 160 = s.O := by
  funext j
  unfold Sce.O oamB
  by_cases e : j < 160
  · rw [if_pos e, if_pos e]
  · rw [if_neg e, if_neg e, h.oa j (by omega)]
theorem Bl.R (h : Bl p) (s : Sce) : regsB (offR p.rg) (rgOf s.rl s.f) 0 = s.R := by
  funext n
  unfold Sce.R regsB
  by_cases e : 0 ≤ n ∧ n < 12 ∧ n ≠ 1 ∧ n ≠ 4 ∧ n ≠ 5 ∧ n ≠ 6
  · rw [if_pos e, if_pos e]
  · rw [if_neg e, if_neg e]
    unfold offR
    by_cases e4 : n = 4
    · rw [if_pos e4]
    · rw [if_neg e4, if_neg (by omega), h.rg n (by omega)]
theorem newPic_bl : Bl newPic := by
  refine ⟨rfl, fun j _ => rfl, fun j hj => ?_⟩
  unfold newPic Pic.setR
  dsimp only
  rcases hj with rfl | rfl | rfl | hj
  · decide
  · decide
  · decide
  · rw [if_neg (by omega), if_neg (by omega), if_neg (by omega), if_neg (by omega), if_neg (by omega), if_neg (by omega), if_neg (by omega), if_neg (by omega), if_neg (by omega), if_neg (by omega), if_neg (by omega), if_neg (by omega)]
    rfl
/-- a picture as a scene has made it -/
structure Scn (s : Sce) (q : Pic) : Prop where
  sane : Sane q
  vr : q.vr = s.V
  oa : q.oa = s.O
  rg : q.rg = s.R
  clk : q.clk = 0
theorem Scn.on {s : Sce} {q : Pic} (h : Scn s q) : q.has 128 = true := by unfold Pic.has; rw [h.rg]; exact s.R_on
theorem Scn.r4 {s : Sce} {q : Pic} (h : Scn s q) : q.rg 4 = 0 := by rw [h.rg]; exact s.R_4
theorem setS_any {W : World} (s : Sce) (hs : Sane p) (hb : Bl p) (hp : PxAt W b p) (D : ∀ w', Fr b W w' → ScAt w' s) :
    Calls Try.prog 27 #[s.val, .pointer (some ⟨b, 0, none⟩)] W fun e w' => e = .returned (.tuple #[]) ∧ (∃ q, PxAt w' b q ∧ Scn s q) ∧ Fr b W w' := by
  refine (setG_any hs hp (fun w' f => (D w' f).ints) (fun w' f => (D w' f).byts) (fun w' f => (D w' f).pcs)).mono fun e w' ⟨h1, h2⟩ => ⟨h1, ?_, h2.fr⟩
  obtain ⟨q, a1, a2, a3, a4, a5, a6, _⟩ := h2.at'
  exact ⟨q, a1, a2, a3.trans (hb.V s), a4.trans (hb.O s), a5.trans (hb.R s), a6⟩
/-- .. and nothing is shown yet -/
theorem setZ_any {W : World} (s : Sce) (hs : Sane p) (hb : Bl p) (hp : PxAt W b p) (D : ∀ w', Fr b W w' → ScAt w' s) :
    Calls Try.prog 27 #[s.val, .pointer (some ⟨b, 0, none⟩)] W fun e w' => e = .returned (.tuple #[]) ∧ (∃ q, PxAt w' b q ∧ Scn s q ∧ ∀ k, k < 23040 → q.sh k = 0) ∧ Fr b W w' := by
  refine (setG_any hs hp (fun w' f => (D w' f).ints) (fun w' f => (D w' f).byts) (fun w' f => (D w' f).pcs)).mono fun e w' ⟨h1, h2⟩ => ⟨h1, ?_, h2.fr⟩
  obtain ⟨q, a1, a2, a3, a4, a5, a6, a7⟩ := h2.at'
  exact ⟨q, a1, ⟨a2, a3.trans (hb.V s), a4.trans (hb.O s), a5.trans (hb.R s), a6⟩, a7⟩
theorem oneS_any {M : Nat} (hM : M = 40) {N : Nat} (hN : N = 16416) {s : Sce} {q : Pic} (h : Scn s q) (W : World) (hp : PxAt W b q) : Calls Try.prog 28 #[.pointer (some ⟨b, 0, none⟩)] W fun e w' => (∃ g, e = .returned (.slice (some ⟨g, 0, none⟩) 23040 23040) ∧ W.heap.size ≤ g ∧ NmAt w' g 23040 (s.frame M)) ∧ PxAt w' b (tickN M q N) ∧ Fr b W w' := by
  have := oneA_any hM hN h.sane h.on h.r4 h.clk W hp
  rw [h.vr, h.oa, h.rg] at this
  exact this
set_option maxRecDepth 100000 in
set_option maxHeartbeats 1000000 in
theorem shotS_any {M : Nat} (hM : M = 40) {W : World} (s : Sce) (D0 : ScAt W s) : Calls Try.prog 26 #[s.val] W fun e w' => ∃ g, e = .returned (.tuple #[.slice (some ⟨g, 0, none⟩) 23040 23040, .bool true]) ∧ W.heap.size ≤ g ∧ NmAt w' g 23040 (s.frame M) ∧ Up W w' := by
  have HD : Hid (∀ w', Up W w' → ScAt w' s) := fun w' u => D0.up u
  clear D0
  unfold Sce.val
  obtain ⟨sb, hsb⟩ : ∃ sb, sb = W.heap.size := ⟨_, rfl⟩
  have hs2 : (W.alloc (Obj.cells #[.slice s.ra s.rl s.rc, .slice s.oa s.ol s.oc, .slice s.pa s.pl s.pc] 37)).heap[sb]? = some (.cells #[.slice s.ra s.rl s.rc, .slice s.oa s.ol s.oc, .slice s.pa s.pl s.pc] 37 (0, 0)) := by rw [hsb]; exact heap_alloc_new W _
  have hs3 : sb < (W.alloc (Obj.cells #[.slice s.ra s.rl s.rc, .slice s.oa s.ol s.oc, .slice s.pa s.pl s.pc] 37)).heap.size := by rw [hsb]; simp
  have HU : Hid (Up W (W.alloc (Obj.cells #[.slice s.ra s.rl s.rc, .slice s.oa s.ol s.oc, .slice s.pa s.pl s.pc] 37))) := (Up.refl W).alloc _
  have HSb : Hid (∀ w', Up (W.alloc (Obj.cells #[.slice s.ra s.rl s.rc, .slice s.oa s.ol s.oc, .slice s.pa s.pl s.pc] 37)) w' → w'.rangeAt sb 0 [.slice s.ra s.rl s.rc, .slice s.oa s.ol s.oc, .slice s.pa s.pl s.pc]) := fun w' u => by
    have hb := (u.block sb hs3).trans hs2
    exact range3 (by rw [cell_of_row _ _ _ _ _ _ hb]; rfl) (by rw [cell_of_row _ _ _ _ _ _ hb]; rfl) (by rw [cell_of_row _ _ _ _ _ _ hb]; rfl)
  have HM : Hid (M = 40) := hM
  clear hs2 hs3 hM
  go_enter Try.func26, Try.ntmps26
  go_wp2_with fail
  rw [← hsb]
  clear hsb
  generalize World.alloc W _ = W1 at HU HSb ⊢
  have HN : Hid _ := newP_any W1
  generalize hb : W1.heap.size = b at HN
  have HQ : Hid (W1.heap.size ≤ b) := Nat.le_of_eq hb
  clear hb
  refine Calls.mono HN.out ?_
  rintro e w2 ⟨rfl, h2, u2⟩
  have H2 : Hid _ := And.intro h2 u2
  clear h2 u2 HN
  have HR2 : Hid _ := HSb.out _ H2.out.2
  have HSet : Hid _ := setS_any s newPic_sane newPic_bl H2.out.1 (fun w' f => HD.out w' (HU.out.trans (Fr.up H2.out.2 HQ.out f)))
  unfold Sce.val at HSet
  go_wp2_with (refine wpList_load_mid rfl 37 _ rfl sb 0 rfl [.slice s.ra s.rl s.rc, .slice s.oa s.ol s.oc, .slice s.pa s.pl s.pc] _ HR2.out Try.underlying37 rfl (by kernel_rfl) ?_)
  refine Calls.mono HSet.out ?_
  rintro e w3 ⟨rfl, ⟨q, h3, hq⟩, F3⟩
  have HO : Hid _ := oneS_any HM.out (N := 16416) rfl hq w3 h3
  have HQ3 : Hid (W.heap.size ≤ b ∧ Fr b W w3) := ⟨Nat.le_trans HU.out.size HQ.out, (Fr.ofUp (HU.out.trans H2.out.2)).trans F3⟩
  clear h3 hq F3 HSet HR2 HD HSb HQ
  go_wp2_with fail
  refine Calls.mono HO.out ?_
  rintro e w4 ⟨⟨g, rfl, hg, h4⟩, _, F4⟩
  have H4 : Hid (W.heap.size ≤ g ∧ NmAt w4 g 23040 (s.frame M) ∧ Up W w4) := ⟨Nat.le_trans HQ3.out.2.size hg, h4, Fr.up (Up.refl W) HQ3.out.1 (HQ3.out.2.trans F4)⟩
  clear h4 F4 hg HO HQ3
  go_wp2_with fail
  go_ret2
  exact ⟨g, by first | rfl | (simp; done), H4.out⟩
/-- bytes as a string -/
def strN (n : Nat) (f : Nat → Int) : ByteArray := strOfNums ((List.range' 0 n).map f)
theorem NmAt.conv {w : World} {g n : Nat} {f : Nat → Int} (h : NmAt w g n f) (c : Nat) : (convert 23 9 (.slice (some ⟨g, 0, none⟩) n c)).run Try.prog w = .ok (.string (strN n f)) w := by
  refine run_convert_bytes_arg w 23 5 Try.underlying23 Try.underlying5 g 0 n c ((List.range' 0 n).map f) (by rw [List.length_map, List.length_range']) (fun i hi => ?_) 9 Try.underlying9
  rw [Nat.zero_add, h.cell i hi]
  congr 2
  unfold List.getD
  rw [List.getElem?_map, List.getElem?_range' hi]
  simp
end Go.Proofs.Ytmjfccdhjhkocaa
