/- A scene's frame. -/
import Derived.Test.YtmjfccdhjhkocaaPxX2
namespace Go.Proofs.Ytmjfccdhjhkocaa
open Go.RowKit
set_option linter.unusedVariables false
variable {b : Nat} {p : Pic}
/-- the picture that a scene makes -/
def scPic (V R : Nat → Int) : Pic := ⟨V, fun _ => 0, regsTo R 0, 0, false, 0, fun _ => 0, fun _ => 0⟩
def pointS (V R : Nat → Int) (l x : Nat) : Int := (scPic V R).pointG l x
theorem ScP.point {q : Pic} {V R : Nat → Int} (h : ScP q V R) (l x : Nat) : q.pointG l x = pointS V R l x := by
  unfold pointS Pic.pointG Pic.num Pic.lo Pic.hi Pic.tileN Pic.tileAt Pic.mapBy Pic.has
  rw [h.vr, h.rg]
  rfl
theorem ScP.tk {q : Pic} {V R : Nat → Int} (h : ScP q V R) : TkD q 0 q := by
  have e4 : q.rg 4 = 0 := by rw [h.rg]; rfl
  exact ⟨⟨rfl, rfl, fun _ _ => rfl, by rw [e4]; rfl, by rw [h.clk]; rfl⟩, fun l x _ hl => absurd hl (by omega)⟩
theorem ScP.bare {q : Pic} {V R : Nat → Int} (h : ScP q V R) (h32 : (bits .and .u8 (regN (R 0) 0) 32 != 0) = false) (h2 : (bits .and .u8 (regN (R 0) 0) 2 != 0) = false) : Bare q := by
  have e0 : q.rg 0 = regN (R 0) 0 := by rw [h.rg]; unfold regsTo; rw [if_pos (by decide)]
  refine ⟨h.inn, ?_, ?_, ?_⟩
  · unfold Pic.has
    rw [e0]
    unfold regN
    rw [if_pos rfl]
    exact (or128_b _ (pickI_lo _ 256 (by decide)) (by have := pickI_hi (R 0) 256 (by decide); omega)).2
  · unfold Pic.has
    rw [e0]
    exact h32
  · unfold Pic.has
    rw [e0]
    exact h2
set_option maxRecDepth 100000 in
set_option maxHeartbeats 1000000 in
theorem one_any {p0 : Pic} {W0 : World} (W : World) (h : Td W0 b p0 0 W) (B : Bare p0) : Calls Try.prog 28 #[.pointer (some ⟨b, 0, none⟩)] W fun e w' => (∃ g, e = .returned (.slice (some ⟨g, 0, none⟩) 23040 23040) ∧ W0.heap.size ≤ g ∧ NmAt w' g 23040 (fun i => p0.pointG (i / 160) (i % 160))) ∧ Fr b W0 w' := by
  have H0 : Hid _ := h
  have HB : Hid _ := B
  clear h B
  go_enter Try.func28, Try.ntmps28
  go_wp2_with fail
  go_loopw [3] (fun I wr => ∃ i : Nat, i ≤ 16416 ∧ I = .int .i64 i ∧ Hid (i < 16416 → Td W0 b p0 i wr) ∧ Hid (i = 16416 → (∃ q, PxAt wr b q ∧ ∀ i, i < 23040 → q.sh i = p0.pointG (i / 160) (i % 160)) ∧ Fr b W0 wr)) (fun I _ => 16416 - (intOf I).toNat)
  case atStart => exact ⟨0, by omega, rfl, fun _ => H0.out, fun e => absurd e (by omega)⟩
  case round =>
    clear H0
    obtain ⟨i, hi, rfl, M0, M1⟩ := hrel
    by_cases hlt : i < 16416
    · have d1 : decide ((i : Int) < 16416) = true := decide_eq_true (by omega)
      have e1 : (i : Int) < 16416 := by omega
      by_cases hl : i + 1 < 16416
      · have HT : Hid _ := (M0.out hlt).tick HB.out hl
        go_wp2_with fail
        refine Calls.mono HT.out ?_
        rintro e w4 ⟨⟨v, rfl⟩, h4⟩
        have H4 : Hid _ := h4
        clear h4 HT M0 M1
        go_wp2_with fail
        refine ⟨⟨i + 1, by omega, ?_, fun _ => H4.out, fun e => absurd e (by omega)⟩, ?_⟩
        · first | rfl | (simp; done)
        · simp [intOf]
          omega
      · have ei : i = 16415 := by omega
        have HT : Hid _ := (show Td W0 b p0 16415 wr by rw [← ei]; exact M0.out hlt).lastTick HB.out
        clear ei
        go_wp2_with fail
        refine Calls.mono HT.out ?_
        rintro e w4 ⟨⟨v, rfl⟩, h4⟩
        have H4 : Hid _ := h4
        clear h4 HT M0 M1
        go_wp2_with fail
        refine ⟨⟨i + 1, by omega, ?_, fun e => absurd e (by omega), fun _ => H4.out⟩, ?_⟩
        · first | rfl | (simp; done)
        · simp [intOf]
          omega
    · have d1 : decide ((i : Int) < 16416) = false := decide_eq_false (by omega)
      have M2 : Hid _ := M1.out (by omega)
      clear M0 M1
      obtain ⟨q, hq, hs⟩ := M2.out.1
      have HF : Hid _ := frame_any wr hq
      have HS : Hid _ := hs
      clear hq hs
      go_wp2_with fail
      refine Calls.mono HF.out ?_
      rintro e w5 ⟨rfl, h5, u5⟩
      have H5 : Hid _ := And.intro h5 u5
      clear h5 u5 HF
      go_wp2_with fail
      go_ret
      exact ⟨⟨_, rfl, M2.out.2.size, H5.out.1.congr HS.out⟩, M2.out.2.trans (Fr.ofUp H5.out.2)⟩
set_option maxRecDepth 100000 in
set_option maxHeartbeats 1000000 in
theorem shot_any {W : World} {rb ro rc : Nat} {R : Nat → Int} {pa : Option Addr} {pb po pl pc : Nat} {P : Nat → Pce} (hR : ∀ i, I64 (R i)) (DR : ∀ w', Up W w' → ∀ i, i < 12 → w'.cell? ⟨rb, ro + i, none⟩ = some (.int .i64 (R i))) (D : ∀ w', Up W w' → Pcs w' pa pb po pl pc P)
    (h32 : (bits .and .u8 (regN (R 0) 0) 32 != 0) = false) (h2 : (bits .and .u8 (regN (R 0) 0) 2 != 0) = false) :
    Calls Try.prog 26 #[.agg #[.slice (some ⟨rb, ro, none⟩) 12 rc, .slice none 0 0, .slice pa pl pc]] W fun e w' => ∃ g, e = .returned (.tuple #[.slice (some ⟨g, 0, none⟩) 23040 23040, .bool true]) ∧ W.heap.size ≤ g ∧ NmAt w' g 23040 (fun i => pointS (putP P pl) R (i / 160) (i % 160)) ∧ Up W w' := by
  obtain ⟨sb, hsb⟩ : ∃ sb, sb = W.heap.size := ⟨_, rfl⟩
  have hs2 : (W.alloc (Obj.cells #[.slice (some ⟨rb, ro, none⟩) 12 rc, .slice none 0 0, .slice pa pl pc] 37)).heap[sb]? = some (.cells #[.slice (some ⟨rb, ro, none⟩) 12 rc, .slice none 0 0, .slice pa pl pc] 37 (0, 0)) := by rw [hsb]; exact heap_alloc_new W _
  have hs3 : sb < (W.alloc (Obj.cells #[.slice (some ⟨rb, ro, none⟩) 12 rc, .slice none 0 0, .slice pa pl pc] 37)).heap.size := by rw [hsb]; simp
  have HU : Hid (Up W (W.alloc (Obj.cells #[.slice (some ⟨rb, ro, none⟩) 12 rc, .slice none 0 0, .slice pa pl pc] 37))) := (Up.refl W).alloc _
  have HSb : Hid (∀ w', Up (W.alloc (Obj.cells #[.slice (some ⟨rb, ro, none⟩) 12 rc, .slice none 0 0, .slice pa pl pc] 37)) w' → w'.rangeAt sb 0 [.slice (some ⟨rb, ro, none⟩) 12 rc, .slice none 0 0, .slice pa pl pc]) := fun w' u => by
    have hb := (u.block sb hs3).trans hs2
    exact range3 (by rw [cell_of_row _ _ _ _ _ _ hb]; rfl) (by rw [cell_of_row _ _ _ _ _ _ hb]; rfl) (by rw [cell_of_row _ _ _ _ _ _ hb]; rfl)
  have HD : Hid ((∀ i, I64 (R i)) ∧ (∀ w', Up W w' → ∀ i, i < 12 → w'.cell? ⟨rb, ro + i, none⟩ = some (.int .i64 (R i))) ∧ (∀ w', Up W w' → Pcs w' pa pb po pl pc P)) := ⟨hR, DR, D⟩
  have HB : Hid (∀ q, ScP q (putP P pl) R → Bare q) := fun q h => h.bare h32 h2
  clear hR DR D h32 h2 hs2 hs3
  go_enter Try.func26, Try.ntmps26
  go_wp2_with fail
  rw [← hsb]
  clear hsb
  generalize World.alloc W _ = W1 at HU HSb ⊢
  have HN : Hid _ := newP_any W1
  generalize hb : W1.heap.size = b at HN
  have HQ : Hid (W1.heap.size ≤ b) := Nat.le_of_eq hb
  clear hb
  refine Calls.mono HN.out ?_
  rintro e w2 ⟨rfl, h2, u2⟩
  have H2 : Hid _ := And.intro h2 u2
  clear h2 u2 HN
  have HR2 : Hid _ := HSb.out _ H2.out.2
  have HSet : Hid _ := set_any (rc := rc) H2.out.1 HD.out.1 (fun w' f => HD.out.2.1 w' (HU.out.trans (Fr.up H2.out.2 HQ.out f))) (fun w' f => HD.out.2.2 w' (HU.out.trans (Fr.up H2.out.2 HQ.out f)))
  go_wp2_with (refine wpList_load_mid rfl 37 _ rfl sb 0 rfl [.slice (some ⟨rb, ro, none⟩) 12 rc, .slice none 0 0, .slice pa pl pc] _ HR2.out Try.underlying37 rfl (by kernel_rfl) ?_)
  refine Calls.mono HSet.out ?_
  rintro e w3 ⟨rfl, ⟨q, h3, hq⟩, F3⟩
  have H3 : Hid (Td W b q 0 w3) := ⟨⟨q, hq.tk, h3⟩, (Fr.ofUp (HU.out.trans H2.out.2)).trans F3⟩
  have HO : Hid _ := one_any w3 H3.out (HB.out q hq)
  have HQ2 : Hid (∀ l x, q.pointG l x = pointS (putP P pl) R l x) := fun l x => hq.point l x
  have HQ3 : Hid (W.heap.size ≤ b) := Nat.le_trans HU.out.size HQ.out
  clear h3 hq F3 HSet HR2 HD HB HSb HQ
  go_wp2_with fail
  refine Calls.mono HO.out ?_
  rintro e w4 ⟨⟨g, rfl, hg, h4⟩, F4⟩
  have H4 : Hid (W.heap.size ≤ g ∧ NmAt w4 g 23040 (fun i => pointS (putP P pl) R (i / 160) (i % 160)) ∧ Up W w4) := ⟨hg, h4.congr (fun k _ => HQ2.out _ _), Fr.up (Up.refl W) HQ3.out F4⟩
  clear h4 F4 hg HO H3 HQ2
  go_wp2_with fail
  go_ret2
  exact ⟨g, by first | rfl | (simp; done), H4.out⟩
end Go.Proofs.Ytmjfccdhjhkocaa
