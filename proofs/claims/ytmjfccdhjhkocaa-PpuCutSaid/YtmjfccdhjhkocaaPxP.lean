/- A row of the background laid into numbers. -/
import Derived.Test.YtmjfccdhjhkocaaPxO
namespace Go.Proofs.Ytmjfccdhjhkocaa
open Go.RowKit
set_option linter.unusedVariables false
variable {b : Nat} {p : Pic}
/-- a block of n bytes -/
structure NmAt (w : World) (g n : Nat) (f : Nat → Int) : Prop where
  row : ∃ cs ty, w.heap[g]? = some (.cells cs ty (0, 0)) ∧ cs.size = n ∧ ∀ k, k < n → cs[k]? = some (.int .u8 (f k))
theorem NmAt.lt {w : World} {g n : Nat} {f : Nat → Int} (h : NmAt w g n f) : g < w.heap.size := by
  obtain ⟨cs, ty, h1, _⟩ := h.row
  exact (Array.getElem?_eq_some_iff.1 h1).1
theorem NmAt.cell {w : World} {g n : Nat} {f : Nat → Int} (h : NmAt w g n f) (k : Nat) (hk : k < n) : w.cell? ⟨g, k, none⟩ = some (.int .u8 (f k)) := by
  obtain ⟨cs, ty, h1, h2, h3⟩ := h.row
  rw [cell_of_row _ _ _ _ _ _ h1]
  exact h3 k hk
theorem NmAt.fz {w : World} {g n : Nat} {f : Nat → Int} (h : NmAt w g n f) (k : Nat) : w.frozen? ⟨g, k, none⟩ = false := by
  obtain ⟨cs, ty, h1, _⟩ := h.row
  simp [World.frozen?, h1]
theorem NmAt.of_block {w w' : World} {g n : Nat} {f : Nat → Int} (h : NmAt w g n f) (e : w'.heap[g]? = w.heap[g]?) : NmAt w' g n f := by
  obtain ⟨cs, ty, h1, h2⟩ := h.row
  exact ⟨cs, ty, e.trans h1, h2⟩
theorem NmAt.congr {w : World} {g n : Nat} {f f' : Nat → Int} (h : NmAt w g n f) (e : ∀ k, k < n → f k = f' k) : NmAt w g n f' := by
  obtain ⟨cs, ty, h1, h2, h3⟩ := h.row
  exact ⟨cs, ty, h1, h2, fun k hk => by rw [← e k hk]; exact h3 k hk⟩
theorem NmAt.set {w : World} {g n : Nat} {f : Nat → Int} (h : NmAt w g n f) (i : Nat) (hi : i < n) (x : Int) : NmAt (w.setCell ⟨g, i, none⟩ (.int .u8 x)) g n (fun k => if k = i then x else f k) := by
  obtain ⟨cs, ty, h1, h2, h3⟩ := h.row
  refine ⟨cs.setIfInBounds i (.int .u8 x), ty, heap_setCell_same w g i _ _ _ h1, by simp [h2], fun j hj => ?_⟩
  rw [Array.getElem?_setIfInBounds]
  by_cases e : j = i
  · subst e
    rw [if_pos rfl, if_pos (by omega), if_pos rfl]
  · rw [if_neg (fun e' => e e'.symm), if_neg e]
    exact h3 j hj
theorem PxAt.ofB {w w' : World} (h : PxAt w b p) (e : w'.heap[b]? = w.heap[b]?) : PxAt w' b p := by
  obtain ⟨cs, h1, h2⟩ := h.row
  exact ⟨cs, e.trans h1, h2⟩
/-- a row of a tile on the map at m: by the row r of the ring and the column c -/
def Pic.tileN (p : Pic) (m r c : Nat) : Nat := (p.tileAt (p.vr (m + r / 8 * 32 + c / 8))).toNat
def Pic.lo (p : Pic) (m r c : Nat) : Int := p.vr (p.tileN m r c + 2 * (r % 8))
def Pic.hi (p : Pic) (m r c : Nat) : Int := p.vr (p.tileN m r c + 2 * (r % 8) + 1)
def Pic.num (p : Pic) (m r c : Nat) : Int := numberI (p.lo m r c) (p.hi m r c) (7 - (c % 8 : Nat))
theorem Pic.tileN_b (i : p.In) (m r c : Nat) : p.tileN m r c ≤ 6128 := by
  have := p.tileAt_b _ (i.vr (m + r / 8 * 32 + c / 8)).1 (i.vr (m + r / 8 * 32 + c / 8)).2
  unfold Pic.tileN
  omega
theorem Pic.lo_same {m r c c' : Nat} (e : c / 8 = c' / 8) : p.lo m r c = p.lo m r c' := by unfold Pic.lo Pic.tileN; rw [e]
theorem Pic.hi_same {m r c c' : Nat} (e : c / 8 = c' / 8) : p.hi m r c = p.hi m r c' := by unfold Pic.hi Pic.tileN; rw [e]
theorem sliced_at (l : Int) (M : Nat) (e : l = (M : Int)) (hM : M < 8192) (w : World) : (Instr.sliceAt 69 (.pointer (some ⟨b, 0, none⟩)) (some (.int .i64 l)) none none).run Try.prog w = .ok (.slice (some ⟨b, M, none⟩) (8192 - M) (8192 - M)) w := by
  subst e
  have e1 : Try.prog.arrayLen 69 = 8192 := by kernel_rfl
  have e2 : (sizeOf (Try.prog.elem 69)).run Try.prog w = .ok 1 w := by kernel_rfl
  rw [run_sliceAt_array_l w _ _ (by kernel_rfl) _ _ (by omega) (by rw [e1]; omega), e2, e1]
  simp only [Result.andThen, slicedAt, Int.toNat_natCast]
  rw [if_neg (by omega), Nat.mul_one]
  simp [Addr.add]
  try omega
def Pic.laid (p : Pic) (m r c o : Nat) (f : Nat → Int) (x : Nat) (j : Nat) : Int := if o ≤ j ∧ j < o + x then p.num m r ((c + (j - o)) % 256) else f j
theorem lay_step {W wr w1 : World} {g m r c o x k : Nat} {f : Nat → Int} (h : NmAt wr g 160 (p.laid m r c o f x) ∧ PxAt wr b p ∧ Fr g W wr) (u : Up wr w1) (hx : o + x < 160) (hgb : g ≠ b) (hk : k = (c + x) % 256) :
    NmAt (w1.setCell ⟨g, o + x, none⟩ (.int .u8 (p.num m r k))) g 160 (p.laid m r c o f (x + 1)) ∧ PxAt (w1.setCell ⟨g, o + x, none⟩ (.int .u8 (p.num m r k))) b p ∧ Fr g W (w1.setCell ⟨g, o + x, none⟩ (.int .u8 (p.num m r k))) := by
  obtain ⟨h1, h2, h3⟩ := h
  refine ⟨?_, (h2.up u).ofB (Below.heap_setCell _ _ _ _ (fun e => hgb e.symm)), (h3.trans (Fr.ofUp u)).setCell⟩
  refine ((h1.of_block (u.block _ h1.lt)).set (o + x) hx _).congr ?_
  intro j hj
  show (if j = o + x then p.num m r k else p.laid m r c o f x j) = p.laid m r c o f (x + 1) j
  unfold Pic.laid
  by_cases e : j = o + x
  · subst e
    rw [if_pos rfl, if_pos (by omega), hk]
    congr 2
    omega
  · rw [if_neg e]
    by_cases e2 : o ≤ j ∧ j < o + x
    · rw [if_pos e2, if_pos (by omega)]
    · rw [if_neg e2, if_neg (by omega)]
set_option maxRecDepth 100000 in
set_option maxHeartbeats 4000000 in
theorem lay_any (i : p.In) (m : Nat) (hm : m = 6144 ∨ m = 7168) (r c : Nat) (hr : r < 256) (hc : c < 256) (g o n : Nat) (hn : o + n = 160) (f : Nat → Int) (hgb : g ≠ b) (W : World) (h : PxAt W b p) (hN : NmAt W g 160 f) :
    Calls Try.prog 78 #[.pointer (some ⟨b, 0, none⟩), .slice (some ⟨g, o, none⟩) n n, .int .i64 (m : Int), .int .u8 (r : Int), .int .u8 (c : Int)] W fun e w' => e = .returned (.tuple #[]) ∧ NmAt w' g 160 (fun k => if o ≤ k then p.num m r ((c + (k - o)) % 256) else f k) ∧ Fr g W w' := by
  have q2 : r / 8 ≤ 31 := by omega
  have q4 : m + r / 8 * 32 + 32 ≤ 8192 := by omega
  have r0 : (0 : Int) ≤ (r : Int) := by omega
  have r1 : (r : Int) < 256 := by omega
  have m0 : (0 : Int) ≤ (m : Int) := by omega
  have m1 : (m : Int) ≤ 7168 := by omega
  have m2 : (m : Int) + (r : Int) / 8 * 32 ≤ 8160 := by omega
  have hs : ∀ w, (Instr.sliceAt 69 (.pointer (some ⟨b, 0, none⟩)) (some (.int .i64 ((m : Int) + (r : Int) / 8 * 32))) none none).run Try.prog w = .ok (.slice (some ⟨b, m + r / 8 * 32, none⟩) (8192 - (m + r / 8 * 32)) (8192 - (m + r / 8 * 32))) w := fun w => sliced_at _ _ (by omega) (by omega) w
  generalize hM : m + r / 8 * 32 = M at *
  have HI : Hid p.In := i
  have HP : Hid (PxAt W b p) := h
  have HN : Hid (NmAt W g 160 f) := hN
  clear h hN i
  go_enter Try.func78, Try.ntmps78
  go_wp2_with fail
  go_loopw [27, 4, 11, 12] (fun X C L H wr => ∃ (x k : Nat) (l h : Int), x ≤ n ∧ k = (c + x) % 256 ∧ X = .int .i64 x ∧ C = .int .u8 k ∧ L = .int .u8 l ∧ H = .int .u8 h ∧ (0 ≤ l ∧ l ≤ 255) ∧ (0 ≤ h ∧ h ≤ 255) ∧ (0 < x → l = p.lo m r ((c + (x - 1)) % 256) ∧ h = p.hi m r ((c + (x - 1)) % 256)) ∧ Hid (NmAt wr g 160 (p.laid m r c o f x) ∧ PxAt wr b p ∧ Fr g W wr)) (fun X _ _ _ _ => n - (intOf X).toNat)
  case atStart => exact ⟨0, c, 0, 0, by omega, by omega, rfl, rfl, rfl, rfl, by decide, by decide, fun e => absurd e (by omega), ⟨HN.out.congr (fun k _ => by unfold Pic.laid; rw [if_neg (by omega)]), HP.out, Fr.refl g W⟩⟩
  case round =>
    obtain ⟨x, k, l, hh, hx, hk, rfl, rfl, rfl, rfl, hl, hH, hlh, M0⟩ := hrel
    clear HP HN hs
    by_cases hlt : x < n
    · have d1 : decide ((x : Int) < (n : Int)) = true := decide_eq_true (by omega)
      have e1 : (x : Int) < (n : Int) := by omega
      have k1 : k < 256 := by omega
      have k2 : ((k : Int) / 8).toNat = k / 8 := by omega
      have kn := M0.out.1.cell (o + x) (by omega)
      have fn := M0.out.1.fz (o + x)
      by_cases hq : x = 0 ∨ k % 8 = 0
      · have kv := M0.out.2.1.vram (M + k / 8) (by omega)
        have T0 := (HI.out.vr (M + k / 8))
        have HT : Hid (∀ W, PxAt W b p → Calls Try.prog 89 #[.pointer (some ⟨b, 0, none⟩), .int .u8 (p.vr (M + k / 8))] W fun e w' => e = .returned (.int .i64 ((p.tileN m r k : Nat) : Int)) ∧ w' = W) := fun W h => by
          have := tileAt_any _ T0.1 T0.2 W h
          have e : ((p.tileN m r k : Nat) : Int) = p.tileAt (p.vr (M + k / 8)) := by
            have := p.tileAt_b _ T0.1 T0.2
            unfold Pic.tileN
            rw [hM]
            omega
          rw [e]
          exact this
        have HR : Hid (∀ W, PxAt W b p → Calls Try.prog 88 #[.pointer (some ⟨b, 0, none⟩), .int .i64 ((p.tileN m r k : Nat) : Int), .int .i64 ((r : Int) % 8)] W fun e w' => e = .returned (.tuple #[.int .u8 (p.lo m r k), .int .u8 (p.hi m r k)]) ∧ ∃ n, w' = W.drewN n) := fun W h => by
          have h1 := Pic.tileN_b HI.out m r k
          have := tileRow_any (p.tileN m r k) (r % 8) (by omega) (by omega) W h
          have e : ((r % 8 : Nat) : Int) = (r : Int) % 8 := by omega
          rw [e] at this
          exact this
        have L0 : 0 ≤ p.lo m r k ∧ p.lo m r k ≤ 255 := HI.out.vr _
        have L1 : 0 ≤ p.hi m r k ∧ p.hi m r k ≤ 255 := HI.out.vr _
        have HNu : Hid (∀ W, Calls Try.prog 85 #[.int .u8 (p.lo m r k), .int .u8 (p.hi m r k), .int .u8 (7 - (k : Int) % 8)] W fun e w' => e = .returned (.int .u8 (p.num m r k)) ∧ w' = W) := fun W => by
          have := number_any (p.lo m r k) (p.hi m r k) (7 - (k : Int) % 8) (by omega) (by omega) L0.1 L0.2 L1.1 L1.2 W
          have e : (7 - ((k % 8 : Nat) : Int)) = 7 - (k : Int) % 8 := by omega
          unfold Pic.num
          rw [e]
          exact this
        have lo2 : p.lo m r ((c + (x + 1 - 1)) % 256) = p.lo m r k := by rw [hk]; rfl
        have hi2 : p.hi m r ((c + (x + 1 - 1)) % 256) = p.hi m r k := by rw [hk]; rfl
        have HS : Hid (∀ w1, Up wr w1 → _) := fun w1 (u : Up wr w1) => lay_step M0.out u (by omega) hgb hk
        generalize p.lo m r k = LO at *
        generalize p.hi m r k = HIg at *
        generalize p.num m r k = NU at *
        generalize p.tileN m r k = TN at *
        generalize p.vr (M + k / 8) = T at *
        have HK : Hid (k = (c + x) % 256) := hk
        clear hk hlh
        by_cases hx0 : x = 0
        · have dx : ((x : Int) == 0) = true := beq_iff_eq.2 (by omega)
          clear hq hx0
          go_wp2_with fail
          refine (HT.out _ M0.out.2.1).mono ?_
          rintro e w' ⟨rfl, hw'⟩
          obtain rfl := hw'.symm
          go_wp2_with fail
          refine (HR.out _ M0.out.2.1).mono ?_
          rintro e w' ⟨rfl, n0, rfl⟩
          go_wp2_with fail
          refine (HNu.out _).mono ?_
          rintro e w' ⟨rfl, hw'⟩
          obtain rfl := hw'.symm
          go_wp2_with fail
          have M4 : Hid _ := HS.out _ (Up.drewN _ n0)
          refine ⟨⟨x + 1, (k + 1) % 256, _, _, by omega, by rw [HK.out]; omega, ?_, ?_, rfl, rfl, L0, L1, fun _ => ⟨lo2.symm, hi2.symm⟩, M4⟩, ?_⟩
          · first | rfl | (simp; done)
          · first | rfl | (simp; done)
          · simp [intOf]
            omega
        · have dx : ((x : Int) == 0) = false := beq_eq_false_iff_ne.2 (by omega)
          have dk : ((k : Int) % 8 == 0) = true := beq_iff_eq.2 (by omega)
          clear hq hx0
          go_wp2_with fail
          refine (HT.out _ M0.out.2.1).mono ?_
          rintro e w' ⟨rfl, hw'⟩
          obtain rfl := hw'.symm
          go_wp2_with fail
          refine (HR.out _ M0.out.2.1).mono ?_
          rintro e w' ⟨rfl, n0, rfl⟩
          go_wp2_with fail
          refine (HNu.out _).mono ?_
          rintro e w' ⟨rfl, hw'⟩
          obtain rfl := hw'.symm
          go_wp2_with fail
          have M4 : Hid _ := HS.out _ (Up.drewN _ n0)
          refine ⟨⟨x + 1, (k + 1) % 256, _, _, by omega, by rw [HK.out]; omega, ?_, ?_, rfl, rfl, L0, L1, fun _ => ⟨lo2.symm, hi2.symm⟩, M4⟩, ?_⟩
          · first | rfl | (simp; done)
          · first | rfl | (simp; done)
          · simp [intOf]
            omega
      · have dx : ((x : Int) == 0) = false := beq_eq_false_iff_ne.2 (by omega)
        have dk : ((k : Int) % 8 == 0) = false := beq_eq_false_iff_ne.2 (by omega)
        have hl2 := hlh (by omega)
        have el : l = p.lo m r k := hl2.1.trans (Pic.lo_same (by omega))
        have eh : hh = p.hi m r k := hl2.2.trans (Pic.hi_same (by omega))
        have lo2 : p.lo m r ((c + (x + 1 - 1)) % 256) = l := by rw [el, hk]; rfl
        have hi2 : p.hi m r ((c + (x + 1 - 1)) % 256) = hh := by rw [eh, hk]; rfl
        have HNu : Hid (∀ W, Calls Try.prog 85 #[.int .u8 l, .int .u8 hh, .int .u8 (7 - (k : Int) % 8)] W fun e w' => e = .returned (.int .u8 (p.num m r k)) ∧ w' = W) := fun W => by
          have := number_any l hh (7 - (k : Int) % 8) (by omega) (by omega) hl.1 hl.2 hH.1 hH.2 W
          have e : (7 - ((k % 8 : Nat) : Int)) = 7 - (k : Int) % 8 := by omega
          unfold Pic.num
          rw [e, ← el, ← eh]
          exact this
        have HS : Hid (∀ w1, Up wr w1 → _) := fun w1 (u : Up wr w1) => lay_step M0.out u (by omega) hgb hk
        have HK : Hid (k = (c + x) % 256) := hk
        generalize p.num m r k = NU at *
        clear hk hlh hq hl2 el eh
        go_wp2_with fail
        refine (HNu.out _).mono ?_
        rintro e w' ⟨rfl, hw'⟩
        obtain rfl := hw'.symm
        go_wp2_with fail
        have M4 : Hid _ := HS.out _ (Up.refl _)
        refine ⟨⟨x + 1, (k + 1) % 256, _, _, by omega, by rw [HK.out]; omega, ?_, ?_, rfl, rfl, hl, hH, fun _ => ⟨lo2.symm, hi2.symm⟩, M4⟩, ?_⟩
        · first | rfl | (simp; done)
        · first | rfl | (simp; done)
        · simp [intOf]
          omega
    · have d1 : decide ((x : Int) < (n : Int)) = false := decide_eq_false (by omega)
      have ex : x = n := by omega
      go_wp2_with fail
      go_end0
      exact ⟨rfl, M0.out.1.congr (fun j hj => by unfold Pic.laid; by_cases e : o ≤ j; rw [if_pos (by omega), if_pos e]; rw [if_neg (by omega), if_neg e]), M0.out.2.2⟩
end Go.Proofs.Ytmjfccdhjhkocaa
