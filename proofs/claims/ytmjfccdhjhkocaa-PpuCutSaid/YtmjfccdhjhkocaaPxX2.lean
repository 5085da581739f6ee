/- A scene is set: its pieces. -/
import Derived.Test.YtmjfccdhjhkocaaPxW
import Derived.Deep.RegionHeld3
import Derived.Deep.MidRow
namespace Go.Proofs.Ytmjfccdhjhkocaa
open Go.RowKit
set_option linter.unusedVariables false
variable {b : Nat} {p : Pic}
structure Ints (W : World) (aa : Option Addr) (ab ao len cap : Nat) (f : Nat → Int) : Prop where
  lc : len ≤ cap
  cm : cap ≤ maxLen
  ad : 0 < len → aa = some ⟨ab, ao, none⟩
  i64 : ∀ k, I64 (f k)
  cell : ∀ k, k < len → W.cell? ⟨ab, ao + k, none⟩ = some (.int .i64 (f k))
structure Byts (W : World) (aa : Option Addr) (ab ao len cap : Nat) (f : Nat → Int) : Prop where
  lc : len ≤ cap
  cm : cap ≤ maxLen
  ad : 0 < len → aa = some ⟨ab, ao, none⟩
  u8 : ∀ k, 0 ≤ f k ∧ f k ≤ 255
  cell : ∀ k, k < len → W.cell? ⟨ab, ao + k, none⟩ = some (.int .u8 (f k))
/-- one piece: where it goes, its bytes -/
structure Pce where
  at' : Int
  aa : Option Addr
  ab : Nat
  ao : Nat
  len : Nat
  cap : Nat
  f : Nat → Int
structure Pcs (W : World) (pa : Option Addr) (pb po len cap : Nat) (P : Nat → Pce) : Prop where
  lc : len ≤ cap
  cm : cap ≤ maxLen
  ad : 0 < len → pa = some ⟨pb, po, none⟩
  i64 : ∀ i, I64 (P i).at'
  c0 : ∀ i, i < len → W.cell? ⟨pb, po + i * 2, none⟩ = some (.int .i64 (P i).at')
  c1 : ∀ i, i < len → W.cell? ⟨pb, po + i * 2 + 1, none⟩ = some (.slice (P i).aa (P i).len (P i).cap)
  by' : ∀ i, i < len → Byts W (P i).aa (P i).ab (P i).ao (P i).len (P i).cap (P i).f
/-- bytes put into memory -/
def putB (V : Nat → Int) (P : Pce) : Nat → Nat → Int
  | 0 => V
  | k + 1 => fun j => if 32768 + (j : Int) = spotI P.at' k then P.f k else putB V P k j
def putP (P : Nat → Pce) : Nat → Nat → Int
  | 0 => fun _ => 0
  | i + 1 => putB (putP P i) (P i) (P i).len
set_option maxRecDepth 100000 in
theorem writeN_any (a x : Int) (h1 : 24576 < a) (h2 : a < 32768) (hl : p.locked a = false) (W : World) (h : PxAt W b p) :
    Calls Try.prog 18 #[.pointer (some ⟨b, 0, none⟩), .int .i64 a, .int .i64 x] W fun e w' => e = .returned (.tuple #[]) ∧ w' = W := by
  have HL : Hid (∀ W, PxAt W b p → Calls Try.prog 42 #[.pointer (some ⟨b, 0, none⟩), .int .i64 a] W fun e w' => e = .returned (.bool false) ∧ w' = W) := fun W h => hl ▸ isLocked_any a W h
  have HV : Hid (∀ W, Calls Try.prog 43 #[.int .i64 a] W fun e w' => e = .returned (.bool false) ∧ w' = W) := fun W => by have := isVram_any a W; rw [isV_no (by omega)] at this; exact this
  have HO : Hid (∀ W, Calls Try.prog 44 #[.int .i64 a] W fun e w' => e = .returned (.bool false) ∧ w' = W) := fun W => by have := isOam_any a W; rw [isO_no (by omega)] at this; exact this
  have HR : Hid (∀ W, Calls Try.prog 45 #[.int .i64 a] W fun e w' => e = .returned (.bool false) ∧ w' = W) := fun W => by have := isRegister_any a W; rw [isR_no (by omega)] at this; exact this
  have HP : Hid (PxAt W b p) := h
  clear h hl
  go_enter Try.func18, Try.ntmps18
  go_wp2_with fail
  refine (HL.out _ HP.out).mono ?_
  rintro e w' ⟨rfl, hw'⟩
  obtain rfl := hw'.symm
  go_wp2_with fail
  refine (HV.out _).mono ?_
  rintro e w' ⟨rfl, hw'⟩
  obtain rfl := hw'.symm
  go_wp2_with fail
  refine (HO.out _).mono ?_
  rintro e w' ⟨rfl, hw'⟩
  obtain rfl := hw'.symm
  go_wp2_with fail
  refine (HR.out _).mono ?_
  rintro e w' ⟨rfl, hw'⟩
  obtain rfl := hw'.symm
  go_wp2_with fail
  go_end0
  exact ⟨rfl, rfl⟩
theorem range3 {w : World} {g : Nat} {x y z : Value} (h0 : w.cell? ⟨g, 0, none⟩ = some x) (h1 : w.cell? ⟨g, 1, none⟩ = some y) (h2 : w.cell? ⟨g, 2, none⟩ = some z) : w.rangeAt g 0 [x, y, z] := by
  intro k v hv
  match k with
  | 0 => simp at hv; rw [← hv]; exact h0
  | 1 => simp at hv; rw [← hv]; exact h1
  | 2 => simp at hv; rw [← hv]; exact h2
  | k + 3 => simp at hv
theorem range2 {w : World} {g o : Nat} {x y : Value} (h0 : w.cell? ⟨g, o, none⟩ = some x) (h1 : w.cell? ⟨g, o + 1, none⟩ = some y) : w.rangeAt g o [x, y] := by
  intro k v hv
  match k with
  | 0 => simp at hv; rw [← hv]; exact h0
  | 1 => simp at hv; rw [← hv]; exact h1
  | k + 2 => simp at hv
/-- a picture that is off, of which memory is V -/
structure Sc (W0 : World) (b : Nat) (V : Nat → Int) (W : World) : Prop where
  at' : ∃ q, PxAt W b q ∧ q.In ∧ q.vr = V ∧ q.oa = offPic.oa ∧ q.rg = offPic.rg ∧ q.clk = 0 ∧ q.met = false ∧ q.rows = 0
  fr : Fr b W0 W
theorem Sc.up {W0 W w' : World} {V : Nat → Int} (h : Sc W0 b V W) (u : Up W w') : Sc W0 b V w' := by
  obtain ⟨q, h1, h2⟩ := h.at'
  exact ⟨⟨q, h1.up u, h2⟩, h.fr.trans (Fr.ofUp u)⟩
theorem Sc.write {W0 W : World} {V : Nat → Int} (h : Sc W0 b V W) (A : Int) (a1 : 24576 < A) (a2 : A < 40960) (x : Int) (x0 : 0 ≤ x) (x1 : x ≤ 255) :
    Calls Try.prog 18 #[.pointer (some ⟨b, 0, none⟩), .int .i64 A, .int .i64 x] W fun e w' => e = .returned (.tuple #[]) ∧ Sc W0 b (fun j => if 32768 + (j : Int) = A then x else V j) w' := by
  obtain ⟨q, h1, h2, h3, h4, h5, h6, h7, h8⟩ := h.at'
  have ho : q.has 128 = false := by unfold Pic.has; rw [h5]; exact (show (bits .and .u8 (offPic.rg 0) 128 != 0) = false by decide)
  by_cases ha : A < 32768
  · refine (writeN_any A x a1 ha (off_mode ho _) W h1).mono fun e w' ⟨g1, g2⟩ => ⟨g1, ?_⟩
    rw [g2]
    refine ⟨⟨q, h1, h2, ?_, h4, h5, h6, h7, h8⟩, h.fr⟩
    rw [h3]
    funext j
    rw [if_neg (by omega)]
  · obtain ⟨n, rfl⟩ : ∃ n : Nat, A = 32768 + (n : Int) := ⟨(A - 32768).toNat, by omega⟩
    refine (writeV_any n (by omega) _ x rfl (off_mode ho _) W h1).mono fun e w' ⟨g1, g2, g3⟩ => ⟨g1, ⟨_, g2, h2.setV n _ (cutB_b x), ?_, h4, h5, h6, h7, h8⟩, h.fr.trans g3⟩
    show (fun j => if j = n then cutB x else q.vr j) = _
    rw [show cutB x = x by unfold cutB; simp [IntKind.wrap, IntKind.bits, IntKind.signed]; omega, h3]
    funext j
    by_cases e : j = n
    · rw [if_pos e, if_pos (by omega)]
    · rw [if_neg e, if_neg (by omega)]
theorem Sc.writeO0 {W0 W : World} {V : Nat → Int} (h : Sc W0 b V W) (n : Nat) (hn : n < 160) :
    Calls Try.prog 18 #[.pointer (some ⟨b, 0, none⟩), .int .i64 (65024 + (n : Int)), .int .i64 0] W fun e w' => e = .returned (.tuple #[]) ∧ Sc W0 b V w' := by
  obtain ⟨q, h1, h2, h3, h4, h5, h6, h7, h8⟩ := h.at'
  have ho : q.has 128 = false := by unfold Pic.has; rw [h5]; exact (show (bits .and .u8 (offPic.rg 0) 128 != 0) = false by decide)
  refine (writeO_any n hn _ 0 rfl (off_mode ho _) W h1).mono fun e w' ⟨g1, g2, g3⟩ => ⟨g1, ⟨_, g2, h2.setO n _ (cutB_b 0), h3, ?_, h5, h6, h7, h8⟩, h.fr.trans g3⟩
  show (fun j => if j = n then cutB 0 else q.oa j) = _
  rw [h4]
  funext j
  split
  · rfl
  · rfl
/-- the registers that a scene sets, from the last one down to j -/
def regsTo (R : Nat → Int) (j : Nat) : Nat → Int := fun n => if j ≤ n ∧ n < 12 ∧ n ≠ 1 ∧ n ≠ 4 ∧ n ≠ 5 ∧ n ≠ 6 then regN (R n) n else offPic.rg n
theorem or128_b : ∀ x : Int, 0 ≤ x → x ≤ 255 → (0 ≤ bits .or .i64 x 128 ∧ bits .or .i64 x 128 ≤ 255) ∧ (bits .and .u8 (bits .or .i64 x 128) 128 != 0) = true := byteAll (by decide +kernel)
theorem regN_b (r : Int) (i : Nat) : 0 ≤ regN r i ∧ regN r i ≤ 255 := by
  have a1 := pickI_lo r 256 (by decide)
  have a2 := pickI_hi r 256 (by decide)
  unfold regN
  split
  · exact (or128_b _ a1 (by omega)).1
  · omega
theorem regsTo_skip (R : Nat → Int) (i : Nat) (h : i = 1 ∨ i = 4 ∨ i = 5 ∨ i = 6) : regsTo R (i + 1) = regsTo R i := by
  funext n
  unfold regsTo
  by_cases e : n = i
  · rw [if_neg (by omega), if_neg (by omega)]
  · by_cases e2 : i + 1 ≤ n ∧ n < 12 ∧ n ≠ 1 ∧ n ≠ 4 ∧ n ≠ 5 ∧ n ≠ 6
    · rw [if_pos e2, if_pos (by omega)]
    · rw [if_neg e2, if_neg (by omega)]
theorem regsTo_set (R : Nat → Int) (i : Nat) (h : i < 12 ∧ i ≠ 1 ∧ i ≠ 4 ∧ i ≠ 5 ∧ i ≠ 6) : (fun n => if n = i then regN (R i) i else regsTo R (i + 1) n) = regsTo R i := by
  funext n
  unfold regsTo
  by_cases e : n = i
  · subst e
    rw [if_pos rfl, if_pos (by omega)]
  · rw [if_neg e]
    by_cases e2 : i + 1 ≤ n ∧ n < 12 ∧ n ≠ 1 ∧ n ≠ 4 ∧ n ≠ 5 ∧ n ≠ 6
    · rw [if_pos e2, if_pos (by omega)]
    · rw [if_neg e2, if_neg (by omega)]
/-- a picture as a scene has set it -/
structure ScQ (q : Pic) (V : Nat → Int) (R : Nat → Int) (j : Nat) : Prop where
  inn : q.In
  vr : q.vr = V
  oa : q.oa = offPic.oa
  rg : q.rg = regsTo R j
  clk : q.clk = 0
  met : q.met = false
  rows : q.rows = 0
abbrev ScP (q : Pic) (V : Nat → Int) (R : Nat → Int) : Prop := ScQ q V R 0
structure Sr (W0 : World) (b : Nat) (V : Nat → Int) (R : Nat → Int) (j : Nat) (W : World) : Prop where
  at' : ∃ q, PxAt W b q ∧ ScQ q V R j
  fr : Fr b W0 W
theorem Sc.toSr {W0 W : World} {V : Nat → Int} (R : Nat → Int) (h : Sc W0 b V W) : Sr W0 b V R 12 W := by
  obtain ⟨q, h1, h2, h3, h4, h5, h6, h7, h8⟩ := h.at'
  refine ⟨⟨q, h1, h2, h3, h4, ?_, h6, h7, h8⟩, h.fr⟩
  rw [h5]
  funext n
  unfold regsTo
  rw [if_neg (by omega)]
theorem Sr.up {W0 W w' : World} {V R : Nat → Int} {j : Nat} (h : Sr W0 b V R j W) (u : Up W w') : Sr W0 b V R j w' := by
  obtain ⟨q, h1, h2⟩ := h.at'
  exact ⟨⟨q, h1.up u, h2⟩, h.fr.trans (Fr.ofUp u)⟩
theorem Sr.skip {W0 W : World} {V R : Nat → Int} {i : Nat} (h : Sr W0 b V R (i + 1) W) (hi : i = 1 ∨ i = 4 ∨ i = 5 ∨ i = 6) : Sr W0 b V R i W := by
  obtain ⟨q, h1, h2⟩ := h.at'
  exact ⟨⟨q, h1, h2.inn, h2.vr, h2.oa, h2.rg.trans (regsTo_skip R i hi), h2.clk, h2.met, h2.rows⟩, h.fr⟩
theorem wregAny (i : Nat) (hi : i < 12 ∧ i ≠ 0 ∧ i ≠ 1 ∧ i ≠ 4 ∧ i ≠ 5 ∧ i ≠ 6) (x : Int) (W : World) (h : PxAt W b p) :
    Calls Try.prog 46 #[.pointer (some ⟨b, 0, none⟩), .int .i64 (i : Int), .int .u8 x] W fun e w' => e = .returned (.tuple #[]) ∧ PxAt w' b (p.setR i x) ∧ Fr b W w' := by
  have : i = 2 ∨ i = 3 ∨ i = 7 ∨ i = 8 ∨ i = 9 ∨ i = 10 ∨ i = 11 := by omega
  rcases this with rfl | rfl | rfl | rfl | rfl | rfl | rfl
  · exact wreg2_any x W h
  · exact wreg3_any x W h
  · exact wreg7_any x W h
  · exact wreg8_any x W h
  · exact wreg9_any x W h
  · exact wreg10_any x W h
  · exact wreg11_any x W h
theorem Sr.write {W0 W : World} {V R : Nat → Int} {i : Nat} (h : Sr W0 b V R (i + 1) W) (hi : i < 12 ∧ i ≠ 1 ∧ i ≠ 4 ∧ i ≠ 5 ∧ i ≠ 6) :
    Calls Try.prog 18 #[.pointer (some ⟨b, 0, none⟩), .int .i64 (65344 + (i : Int)), .int .i64 (regN (R i) i)] W fun e w' => e = .returned (.tuple #[]) ∧ Sr W0 b V R i w' := by
  obtain ⟨q, h1, h2⟩ := h.at'
  have rb := regN_b (R i) i
  have ec : cutB (regN (R i) i) = regN (R i) i := by unfold cutB; simp [IntKind.wrap, IntKind.bits, IntKind.signed]; omega
  have ho : i = 0 → q.has 128 = false := fun e => by
    unfold Pic.has
    rw [h2.rg]
    subst e
    exact (show (bits .and .u8 (offPic.rg 0) 128 != 0) = false by decide)
  refine (writeR_any (q := q.setR i (regN (R i) i)) i hi.1 _ _ rfl W h1 (fun W hp => ?_)).mono fun e w' ⟨g1, g2, g3⟩ => ⟨g1, ⟨_, g2, h2.inn.setR i _ rb, h2.vr, h2.oa, ?_, h2.clk, h2.met, h2.rows⟩, h.fr.trans g3⟩
  · rw [ec]
    by_cases e0 : i = 0
    · have := wreg0On_any (p := q) (regN (R i) i) (ho e0) W hp
      subst e0
      exact this
    · exact wregAny i ⟨hi.1, e0, hi.2⟩ _ W hp
  · show (fun n => if n = i then regN (R i) i else q.rg n) = _
    rw [h2.rg]
    exact regsTo_set R i hi
set_option maxRecDepth 100000 in
set_option maxHeartbeats 4000000 in
theorem set_any {W : World} {rb ro rc : Nat} {R : Nat → Int} {pa : Option Addr} {pb po pl pc : Nat} {P : Nat → Pce} (hp : PxAt W b newPic) (hR : ∀ i, I64 (R i)) (DR : ∀ w', Fr b W w' → ∀ i, i < 12 → w'.cell? ⟨rb, ro + i, none⟩ = some (.int .i64 (R i))) (D : ∀ w', Fr b W w' → Pcs w' pa pb po pl pc P) :
    Calls Try.prog 27 #[.agg #[.slice (some ⟨rb, ro, none⟩) 12 rc, .slice none 0 0, .slice pa pl pc], .pointer (some ⟨b, 0, none⟩)] W fun e w' => e = .returned (.tuple #[]) ∧ (∃ q, PxAt w' b q ∧ ScP q (putP P pl) R) ∧ Fr b W w' := by
  have hbl := hp.lt
  have HP : Hid (PxAt (W.alloc (Obj.cells #[.slice (some ⟨rb, ro, none⟩) 12 rc, .slice none 0 0, .slice pa pl pc] 37)) b newPic) := hp.up ((Up.refl W).alloc _)
  have HD : Hid _ := D
  have dl := (D W (Fr.refl b W)).lc
  have dc : pc ≤ 9223372036854775807 := by have := (D W (Fr.refl b W)).cm; unfold maxLen at this; omega
  obtain ⟨sb, hsb⟩ : ∃ sb, sb = W.heap.size := ⟨_, rfl⟩
  have hs2 : (W.alloc (Obj.cells #[.slice (some ⟨rb, ro, none⟩) 12 rc, .slice none 0 0, .slice pa pl pc] 37)).heap[sb]? = some (.cells #[.slice (some ⟨rb, ro, none⟩) 12 rc, .slice none 0 0, .slice pa pl pc] 37 (0, 0)) := by rw [hsb]; exact heap_alloc_new W _
  have HS : Hid (∀ w', Fr b (W.alloc (Obj.cells #[.slice (some ⟨rb, ro, none⟩) 12 rc, .slice none 0 0, .slice pa pl pc] 37)) w' → w'.heap[sb]? = some (.cells #[.slice (some ⟨rb, ro, none⟩) 12 rc, .slice none 0 0, .slice pa pl pc] 37 (0, 0))) := fun w' f => (f.block sb (by rw [hsb]; simp) (by omega)).trans hs2
  have HF : Hid (∀ w', Fr b (W.alloc (Obj.cells #[.slice (some ⟨rb, ro, none⟩) 12 rc, .slice none 0 0, .slice pa pl pc] 37)) w' → Fr b W w') := fun w' f => (Fr.ofUp ((Up.refl W).alloc _)).trans f
  have HRg : Hid (∀ w', Fr b W w' → ∀ i, i < 12 → w'.cell? ⟨rb, ro + i, none⟩ = some (.int .i64 (R i))) := DR
  have HRi : Hid (∀ i, I64 (R i)) := hR
  clear hp D hs2 DR hR
  go_enter Try.func27, Try.ntmps27
  go_wp2_with fail
  rw [← hsb]
  clear hsb hbl
  generalize World.alloc W _ = W1 at HP HS HF ⊢
  refine (start_off W1 HP.out).mono ?_
  rintro e w2 ⟨rfl, h2, F2⟩
  have H2 : Hid (Sc W1 b (fun _ => 0) w2) := ⟨⟨_, h2, offPic_in, rfl, rfl, rfl, rfl, rfl, rfl⟩, F2⟩
  clear h2 F2 HP
  go_wp2_with fail
  go_loopw [4] (fun I wr => ∃ i : Nat, i ≤ pl ∧ I = .int .i64 i ∧ Hid (Sc W1 b (putP P i) wr)) (fun I _ => pl - (intOf I).toNat)
  case atStart => exact ⟨0, by omega, rfl, H2⟩
  case round =>
    clear H2
    obtain ⟨i, hi, rfl, M0⟩ := hrel
    have ks : wr.cell? ⟨sb, 2, none⟩ = some (.slice pa pl pc) := by rw [cell_of_row _ _ _ _ _ _ (HS.out _ M0.out.fr)]; rfl
    by_cases hlt : i < pl
    · have d1 : decide ((i : Int) < (pl : Int)) = true := decide_eq_true (by omega)
      have e1 : (i : Int) < (pl : Int) := by omega
      have dd := HD.out wr (HF.out _ M0.out.fr)
      obtain rfl := dd.ad (by omega)
      have k1 := dd.c1 i hlt
      have bd := dd.by' i hlt
      have b1 := bd.lc
      have b2 : (P i).cap ≤ 9223372036854775807 := by have := bd.cm; unfold maxLen at this; omega
      clear dd bd
      go_wp2_with fail
      obtain ⟨wo, rfl⟩ : ∃ wo : World, wo = wr := ⟨_, rfl⟩
      go_loopw [5] (fun I wr => ∃ k : Nat, k ≤ (P i).len ∧ I = .int .i64 k ∧ Hid (Sc W1 b (putB (putP P i) (P i) k) wr)) (fun I _ => (P i).len - (intOf I).toNat)
      case atStart => exact ⟨0, by omega, rfl, M0⟩
      case round =>
        clear M0 ks k1
        obtain ⟨k, hk, rfl, M1⟩ := hrel
        have ks : wr.cell? ⟨sb, 2, none⟩ = some (.slice (some ⟨pb, po, none⟩) pl pc) := by rw [cell_of_row _ _ _ _ _ _ (HS.out _ M1.out.fr)]; rfl
        have dd := HD.out wr (HF.out _ M1.out.fr)
        have k0 := dd.c0 i hlt
        have k1 := dd.c1 i hlt
        have bd := dd.by' i hlt
        have hat := dd.i64 i
        by_cases hlk : k < (P i).len
        · have d2 : decide ((k : Int) < ((P i).len : Int)) = true := decide_eq_true (by omega)
          have e2 : (k : Int) < ((P i).len : Int) := by omega
          rw [bd.ad (by omega)] at k1
          have kb := bd.cell k hlk
          have x0 := (bd.u8 k).1
          have x1 := (bd.u8 k).2
          have HSp : Hid (∀ W v, Calls Try.prog 52 #[.agg #[.int .i64 (P i).at', v], .int .i64 (k : Int)] W fun e w' => e = .returned (.int .i64 (spotI (P i).at' k)) ∧ Up W w') := fun W v => spot_any _ hat v k (by omega) W
          have HWr : Hid (∀ W, Up wr W → Calls Try.prog 18 #[.pointer (some ⟨b, 0, none⟩), .int .i64 (spotI (P i).at' k), .int .i64 ((P i).f k)] W fun e w' => e = .returned (.tuple #[]) ∧ Sc W1 b (putB (putP P i) (P i) (k + 1)) w') := fun W u => (M1.out.up u).write _ (spotI_lo _ _) (spotI_hi _ _) _ x0 x1
          clear dd bd hat M1
          have HK : Hid (∀ w', Up wr w' → w'.cell? ⟨sb, 2, none⟩ = some (.slice (some ⟨pb, po, none⟩) pl pc) ∧ w'.cell? ⟨pb, po + i * 2, none⟩ = some (.int .i64 (P i).at') ∧ w'.cell? ⟨pb, po + i * 2 + 1, none⟩ = some (.slice (some ⟨(P i).ab, (P i).ao, none⟩) (P i).len (P i).cap) ∧ w'.cell? ⟨(P i).ab, (P i).ao + k, none⟩ = some (.int .u8 ((P i).f k))) := fun w' u =>
            ⟨(u.cell (World.block_lt_of_cell? _ _ ks)).trans ks, (u.cell (World.block_lt_of_cell? _ _ k0)).trans k0, (u.cell (World.block_lt_of_cell? _ _ k1)).trans k1, (u.cell (World.block_lt_of_cell? _ _ kb)).trans kb⟩
          have HK6 : Hid (∀ w', Sc W1 b (putB (putP P i) (P i) (k + 1)) w' → w'.cell? ⟨sb, 2, none⟩ = some (.slice (some ⟨pb, po, none⟩) pl pc) ∧ w'.cell? ⟨pb, po + i * 2, none⟩ = some (.int .i64 (P i).at') ∧ w'.cell? ⟨pb, po + i * 2 + 1, none⟩ = some (.slice (some ⟨(P i).ab, (P i).ao, none⟩) (P i).len (P i).cap) ∧ w'.cell? ⟨(P i).ab, (P i).ao + k, none⟩ = some (.int .u8 ((P i).f k))) := fun w' s => by
            have dd := HD.out w' (HF.out _ s.fr)
            have bd := dd.by' i hlt
            refine ⟨by rw [cell_of_row _ _ _ _ _ _ (HS.out _ s.fr)]; rfl, dd.c0 i hlt, ?_, bd.cell k hlk⟩
            rw [← bd.ad (by omega)]
            exact dd.c1 i hlt
          have HU : Hid (Up wr wr.drew) := (Up.refl _).drew
          generalize (P i).f k = X at *
          generalize spotI (P i).at' k = SP at *
          generalize (P i).ab = bb at *
          generalize (P i).ao = bo at *
          generalize (P i).at' = AT at *
          generalize (P i).cap = CA at *
          generalize (P i).len = LE at *
          go_wp2_with fail
          clear ks k0 k1 kb
          refine wp_region_held_drew (S := (fun w' => w'.cell? ⟨sb, 2, none⟩ = some (.slice (some ⟨pb, po, none⟩) pl pc) ∧ w'.cell? ⟨pb, po + i * 2, none⟩ = some (.int .i64 AT) ∧ w'.cell? ⟨pb, po + i * 2 + 1, none⟩ = some (.slice (some ⟨bb, bo, none⟩) LE CA) ∧ w'.cell? ⟨bb, bo + k, none⟩ = some (.int .u8 X))) (by kernel_rfl) ?_ (fun hHeld => ?_)
          · (try dsimp only); exact HK.out _ HU.out
          refine wpAnyH_take (i := 0) (v := ?_) (by simp only [List.getElem?_toArray, List.getElem?_cons_zero]; rfl) (by kernel_rfl) (by kernel_rfl) (by kernel_rfl) (by intro _ _ _ h; exact h) (Or.inl ⟨by rfl, ?_⟩) (by assumption) ?_
          rotate_left
          · (intro w hSw; (try dsimp only at hSw); go_simp <;> with_reducible rfl)
          try simp only [Act.put, List.setIfInBounds_toArray, List.set_cons_zero, List.set_cons_succ]
          refine wpAnyH_take (i := 1) (v := ?_) (by simp only [List.getElem?_toArray, List.getElem?_cons_succ, List.getElem?_cons_zero]; rfl) (by kernel_rfl) (by kernel_rfl) (by kernel_rfl) (by intro _ _ _ h; exact h) (Or.inl ⟨by rfl, ?_⟩) (by assumption) ?_
          rotate_left
          · (intro w hSw; (try dsimp only at hSw); go_simp <;> with_reducible rfl)
          try simp only [Act.put, List.setIfInBounds_toArray, List.set_cons_zero, List.set_cons_succ]
          refine wpAnyH_take (i := 2) (v := ?_) (by simp only [List.getElem?_toArray, List.getElem?_cons_succ, List.getElem?_cons_zero]; rfl) (by kernel_rfl) (by kernel_rfl) (by kernel_rfl) (by intro _ _ _ h; exact h) (Or.inl ⟨by rfl, ?_⟩) (by assumption) ?_
          rotate_left
          · (intro w hSw; (try dsimp only at hSw); go_simp <;> with_reducible rfl)
          try simp only [Act.put, List.setIfInBounds_toArray, List.set_cons_zero, List.set_cons_succ]
          refine wpAnyH_take (i := 3) (v := ?_) (by simp only [List.getElem?_toArray, List.getElem?_cons_succ, List.getElem?_cons_zero]; rfl) (by kernel_rfl) (by kernel_rfl) (by kernel_rfl) (by intro _ _ _ h; exact h) (Or.inl ⟨by rfl, ?_⟩) (by assumption) ?_
          rotate_left
          · (intro w hSw; (try dsimp only at hSw); go_simp <;> with_reducible rfl)
          try simp only [Act.put, List.setIfInBounds_toArray, List.set_cons_zero, List.set_cons_succ]
          refine wpAnyH_take (i := 4) (v := ?_) (by simp only [List.getElem?_toArray, List.getElem?_cons_succ, List.getElem?_cons_zero]; rfl) (by kernel_rfl) (by kernel_rfl) (by kernel_rfl) (by intro _ _ _ h; exact h) (Or.inl ⟨by rfl, ?_⟩) (by assumption) ?_
          rotate_left
          · (intro w hSw; (try dsimp only at hSw); go_simp <;> with_reducible rfl)
          try simp only [Act.put, List.setIfInBounds_toArray, List.set_cons_zero, List.set_cons_succ]
          refine wpAnyH_take (i := 5) (v := .agg [.int .i64 AT, .slice (some ⟨bb, bo, none⟩) LE CA].toArray) (by simp only [List.getElem?_toArray, List.getElem?_cons_succ, List.getElem?_cons_zero]; rfl) (by kernel_rfl) (by kernel_rfl) (by kernel_rfl) (by intro _ _ _ h; exact h) (yieldsIf_load_mid (by rfl) 55 _ rfl pb (po + i * 2) rfl [.int .i64 AT, .slice (some ⟨bb, bo, none⟩) LE CA] _ (fun w hw => range2 hw.2.1 hw.2.2.1) Try.underlying55 rfl (by kernel_rfl)) (by assumption) ?_
          simp only [Act.put, List.setIfInBounds_toArray, List.set_cons_zero, List.set_cons_succ]
          refine wpAnyH_take (i := 6) (v := ?_) (by simp only [List.getElem?_toArray, List.getElem?_cons_succ, List.getElem?_cons_zero]; rfl) (by kernel_rfl) (by kernel_rfl) (by kernel_rfl) (by intro _ _ _ h; exact h) (Or.inl ⟨by rfl, ?_⟩) (by assumption) ?_
          rotate_left
          · (intro w hSw; (try dsimp only at hSw); go_simp <;> with_reducible rfl)
          try simp only [Act.put, List.setIfInBounds_toArray, List.set_cons_zero, List.set_cons_succ]
          refine wpAnyH_take (i := 8) (v := ?_) (by simp only [List.getElem?_toArray, List.getElem?_cons_succ, List.getElem?_cons_zero]; rfl) (by kernel_rfl) (by kernel_rfl) (by kernel_rfl) (by intro _ _ _ h; exact h) (Or.inl ⟨by rfl, ?_⟩) (by assumption) ?_
          rotate_left
          · (intro w hSw; (try dsimp only at hSw); go_simp <;> with_reducible rfl)
          try simp only [Act.put, List.setIfInBounds_toArray, List.set_cons_zero, List.set_cons_succ]
          refine wpAnyH_take (i := 9) (v := ?_) (by simp only [List.getElem?_toArray, List.getElem?_cons_succ, List.getElem?_cons_zero]; rfl) (by kernel_rfl) (by kernel_rfl) (by kernel_rfl) (by intro _ _ _ h; exact h) (Or.inl ⟨by rfl, ?_⟩) (by assumption) ?_
          rotate_left
          · (intro w hSw; (try dsimp only at hSw); go_simp <;> with_reducible rfl)
          try simp only [Act.put, List.setIfInBounds_toArray, List.set_cons_zero, List.set_cons_succ]
          refine wpAnyH_take (i := 10) (v := ?_) (by simp only [List.getElem?_toArray, List.getElem?_cons_succ, List.getElem?_cons_zero]; rfl) (by kernel_rfl) (by kernel_rfl) (by kernel_rfl) (by intro _ _ _ h; exact h) (Or.inl ⟨by rfl, ?_⟩) (by assumption) ?_
          rotate_left
          · (intro w hSw; (try dsimp only at hSw); go_simp <;> with_reducible rfl)
          try simp only [Act.put, List.setIfInBounds_toArray, List.set_cons_zero, List.set_cons_succ]
          refine wpAnyH_take (i := 11) (v := ?_) (by simp only [List.getElem?_toArray, List.getElem?_cons_succ, List.getElem?_cons_zero]; rfl) (by kernel_rfl) (by kernel_rfl) (by kernel_rfl) (by intro _ _ _ h; exact h) (Or.inl ⟨by rfl, ?_⟩) (by assumption) ?_
          rotate_left
          · (intro w hSw; (try dsimp only at hSw); go_simp <;> with_reducible rfl)
          try simp only [Act.put, List.setIfInBounds_toArray, List.set_cons_zero, List.set_cons_succ]
          refine wpAnyH_take (i := 12) (v := ?_) (by simp only [List.getElem?_toArray, List.getElem?_cons_succ, List.getElem?_cons_zero]; rfl) (by kernel_rfl) (by kernel_rfl) (by kernel_rfl) (by intro _ _ _ h; exact h) (Or.inl ⟨by rfl, ?_⟩) (by assumption) ?_
          rotate_left
          · (intro w hSw; (try dsimp only at hSw); go_simp <;> with_reducible rfl)
          try simp only [Act.put, List.setIfInBounds_toArray, List.set_cons_zero, List.set_cons_succ]
          refine wpAnyH_take (i := 13) (v := ?_) (by simp only [List.getElem?_toArray, List.getElem?_cons_succ, List.getElem?_cons_zero]; rfl) (by kernel_rfl) (by kernel_rfl) (by kernel_rfl) (by intro _ _ _ h; exact h) (Or.inl ⟨by rfl, ?_⟩) (by assumption) ?_
          rotate_left
          · (intro w hSw; (try dsimp only at hSw); go_simp <;> with_reducible rfl)
          try simp only [Act.put, List.setIfInBounds_toArray, List.set_cons_zero, List.set_cons_succ]
          refine wpAnyH_take (i := 14) (v := ?_) (by simp only [List.getElem?_toArray, List.getElem?_cons_succ, List.getElem?_cons_zero]; rfl) (by kernel_rfl) (by kernel_rfl) (by kernel_rfl) (by intro _ _ _ h; exact h) (Or.inl ⟨by rfl, ?_⟩) (by assumption) ?_
          rotate_left
          · (intro w hSw; (try dsimp only at hSw); go_simp <;> with_reducible rfl)
          try simp only [Act.put, List.setIfInBounds_toArray, List.set_cons_zero, List.set_cons_succ]
          refine wpAnyH_take (i := 15) (v := ?_) (by simp only [List.getElem?_toArray, List.getElem?_cons_succ, List.getElem?_cons_zero]; rfl) (by kernel_rfl) (by kernel_rfl) (by kernel_rfl) (by intro _ _ _ h; exact h) (Or.inl ⟨by rfl, ?_⟩) (by assumption) ?_
          rotate_left
          · (intro w hSw; (try dsimp only at hSw); go_simp <;> with_reducible rfl)
          try simp only [Act.put, List.setIfInBounds_toArray, List.set_cons_zero, List.set_cons_succ]
          refine wpAnyH_take (i := 16) (v := ?_) (by simp only [List.getElem?_toArray, List.getElem?_cons_succ, List.getElem?_cons_zero]; rfl) (by kernel_rfl) (by kernel_rfl) (by kernel_rfl) (by intro _ _ _ h; exact h) (Or.inl ⟨by rfl, ?_⟩) (by assumption) ?_
          rotate_left
          · (intro w hSw; (try dsimp only at hSw); go_simp <;> with_reducible rfl)
          try simp only [Act.put, List.setIfInBounds_toArray, List.set_cons_zero, List.set_cons_succ]
          refine wpAnyH_take (i := 17) (v := ?_) (by simp only [List.getElem?_toArray, List.getElem?_cons_succ, List.getElem?_cons_zero]; rfl) (by kernel_rfl) (by kernel_rfl) (by kernel_rfl) (by intro _ _ _ h; exact h) (Or.inl ⟨by rfl, ?_⟩) (by assumption) ?_
          rotate_left
          · (intro w hSw; (try dsimp only at hSw); go_simp <;> with_reducible rfl)
          try simp only [Act.put, List.setIfInBounds_toArray, List.set_cons_zero, List.set_cons_succ]
          refine wpAnyH_ready (rs := [7]) (by kernel_rfl) (by simp) ?_
          refine AllReadyH.cons (by simp only [List.getElem?_toArray, List.getElem?_cons_succ, List.getElem?_cons_zero]; rfl) (fun K hK => ?_) AllReadyH.nil
          go_simp
          refine (HSp.out _ _).mono ?_
          rintro e w5 ⟨rfl, u5⟩
          refine hK.out _ _ ?_ (fun _ => ?_)
          · (try dsimp only); exact HK.out _ (HU.out.trans u5)
          clear hK K
          try simp only [Act.put, List.setIfInBounds_toArray, List.set_cons_zero, List.set_cons_succ]
          refine wpAnyH_ready (rs := [18]) (by kernel_rfl) (by simp) ?_
          refine AllReadyH.cons (by simp only [List.getElem?_toArray, List.getElem?_cons_succ, List.getElem?_cons_zero]; rfl) (fun K hK => ?_) AllReadyH.nil
          go_simp
          rw [show IntKind.i64.wrap X = X by simp [IntKind.wrap, IntKind.bits, IntKind.signed]; omega]
          refine (HWr.out _ (HU.out.trans u5)).mono ?_
          rintro e w6 ⟨rfl, h6⟩
          refine hK.out _ _ ?_ (fun _ => ?_)
          · (try dsimp only); exact HK6.out _ h6
          clear hK K
          try simp only [Act.put, List.setIfInBounds_toArray, List.set_cons_zero, List.set_cons_succ]
          refine wpAnyH_done (by kernel_rfl) ?_ _
          have H6 : Hid _ := h6
          clear h6
          go_wp2_with fail
          refine ⟨⟨k + 1, by omega, ?_, H6⟩, ?_⟩
          · first | rfl | (simp; done)
          · simp [intOf]
            omega
        · have d2 : decide ((k : Int) < ((P i).len : Int)) = false := decide_eq_false (by omega)
          have ek : k = (P i).len := by omega
          have M2 : Hid (Sc W1 b (putP P (i + 1)) wr) := by show Sc W1 b (putB (putP P i) (P i) (P i).len) wr; rw [← ek]; exact M1.out
          clear dd bd k0 hat M1 ek
          go_wp2_with fail
          refine ⟨⟨i + 1, by omega, ?_, M2⟩, ?_⟩
          · first | rfl | (simp; done)
          · simp [intOf]
            omega
    · have d1 : decide ((i : Int) < (pl : Int)) = false := decide_eq_false (by omega)
      have ei : i = pl := by omega
      have M1 : Hid (Sc W1 b (putP P pl) wr) := by show Sc _ _ _ _; rw [← ei]; exact M0.out
      clear M0 ei
      go_wp2_with fail
      go_loopw [6] (fun I wr => ∃ n : Nat, n ≤ 160 ∧ I = .int .i64 n ∧ Hid (Sc W1 b (putP P pl) wr)) (fun I _ => 160 - (intOf I).toNat)
      case atStart => exact ⟨0, by omega, rfl, M1⟩
      case round =>
        clear M1 ks
        obtain ⟨n, hn, rfl, M2⟩ := hrel
        have ks : wr.cell? ⟨sb, 1, none⟩ = some (.slice none 0 0) := by rw [cell_of_row _ _ _ _ _ _ (HS.out _ M2.out.fr)]; rfl
        by_cases hln : n < 160
        · have d3 : decide ((n : Int) < 160) = true := decide_eq_true (by omega)
          have e3 : (n : Int) < 160 := by omega
          have d4 : decide ((n : Int) < 0) = false := decide_eq_false (by omega)
          have HW0 : Hid _ := M2.out.writeO0 n hln
          go_wp2_with fail
          refine Calls.mono HW0.out ?_
          rintro e w4 ⟨rfl, h4⟩
          have H4 : Hid _ := h4
          clear h4 HW0 M2
          go_wp2_with fail
          refine ⟨⟨n + 1, by omega, ?_, H4⟩, ?_⟩
          · first | rfl | (simp; done)
          · simp [intOf]
            omega
        · have d3 : decide ((n : Int) < 160) = false := decide_eq_false (by omega)
          have M3 : Hid (Sr W1 b (putP P pl) R 12 wr) := M2.out.toSr R
          clear M2 ks
          go_wp2_with fail
          go_loopw [8] (fun I wr => ∃ j : Nat, j ≤ 12 ∧ I = .int .i64 ((j : Int) - 1) ∧ Hid (Sr W1 b (putP P pl) R j wr)) (fun I _ => (intOf I + 1).toNat)
          case atStart => exact ⟨12, by omega, rfl, M3⟩
          case round =>
            clear M3
            obtain ⟨j, hj, rfl, M4⟩ := hrel
            by_cases hj0 : j = 0
            · subst hj0
              go_wp2_with fail
              go_end0
              exact ⟨rfl, M4.out.at', HF.out _ M4.out.fr⟩
            · obtain ⟨i2, rfl⟩ : ∃ i2, j = i2 + 1 := ⟨j - 1, by omega⟩
              have ej : ((i2 + 1 : Nat) : Int) - 1 = (i2 : Int) := by omega
              rw [ej]
              clear ej hj0
              have dge : decide (0 ≤ (i2 : Int)) = true := decide_eq_true (by omega)
              by_cases hsk : i2 = 1 ∨ i2 = 4 ∨ i2 = 5 ∨ i2 = 6
              · have M5 : Hid _ := M4.out.skip hsk
                clear M4
                rcases hsk with rfl | rfl | rfl | rfl <;>
                · go_wp2_with fail
                  refine ⟨⟨_, ?_, ?_, M5⟩, ?_⟩
                  · omega
                  · first | rfl | (simp; done)
                  · simp [intOf]
              · have q1 : ((i2 : Int) != 1) = true := bne_iff_ne.2 (by omega)
                have q4 : ((i2 : Int) != 4) = true := bne_iff_ne.2 (by omega)
                have q5 : ((i2 : Int) != 5) = true := bne_iff_ne.2 (by omega)
                have q6 : ((i2 : Int) != 6) = true := bne_iff_ne.2 (by omega)
                have p1 : ¬ (i2 : Int) = 1 := by omega
                have p4 : ¬ (i2 : Int) = 4 := by omega
                have p5 : ¬ (i2 : Int) = 5 := by omega
                have p6 : ¬ (i2 : Int) = 6 := by omega
                have hi2 : i2 < 12 := by omega
                have hlt2 : (i2 : Int) < 12 := by omega
                have hsb := HS.out _ M4.out.fr
                have HRa : Hid (wr.rangeAt sb 0 [.slice (some ⟨rb, ro, none⟩) 12 rc, .slice none 0 0, .slice pa pl pc]) := range3 (by rw [cell_of_row _ _ _ _ _ _ hsb]; rfl) (by rw [cell_of_row _ _ _ _ _ _ hsb]; rfl) (by rw [cell_of_row _ _ _ _ _ _ hsb]; rfl)
                have HRe : Hid _ := reg_any rb ro rc (.slice none 0 0) (.slice pa pl pc) i2 hi2 (R i2) (HRi.out i2) wr (HRg.out wr (HF.out _ M4.out.fr) i2 hi2)
                have HWe : Hid (∀ w', Up wr w' → _) := fun w' (u : Up wr w') => (M4.out.up u).write (by omega)
                clear hsb M4 hsk
                generalize regN (R i2) i2 = RV at *
                go_wp2_with (refine wpList_load_mid rfl 37 _ rfl sb 0 rfl [.slice (some ⟨rb, ro, none⟩) 12 rc, .slice none 0 0, .slice pa pl pc] _ HRa.out Try.underlying37 rfl (by kernel_rfl) ?_)
                refine Calls.mono HRe.out ?_
                rintro e w5 ⟨rfl, u5⟩
                have HU5 : Hid _ := u5
                clear u5
                go_wp2_with fail
                refine (HWe.out _ HU5.out).mono ?_
                rintro e w6 ⟨rfl, h6⟩
                have H6 : Hid _ := h6
                clear h6 HWe HU5 HRe HRa
                go_wp2_with fail
                refine ⟨⟨i2, by omega, ?_, H6⟩, ?_⟩
                · first | rfl | (simp; done)
                · simp [intOf]
end Go.Proofs.Ytmjfccdhjhkocaa
