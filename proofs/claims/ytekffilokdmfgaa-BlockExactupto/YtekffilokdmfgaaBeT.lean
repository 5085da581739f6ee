/- Block: Of filled sectors. -/
import Derived.Test.YtekffilokdmfgaaBeS
import Derived.Test.YtekffilokdmfgaaBeG
namespace Go.Proofs.Ytekffilokdmfgaa
open Go.RowKit
set_option linter.unusedVariables false
set_option linter.unusedSimpArgs false
variable {w w' W W0 : World} {ρ : Nat → Nat} {wb H n N base : Nat} {ps : List (Nat × Nat)} {Ss : List Sto} {S : Nat → Prop} {L : Bd} {hf f : Nat → Int} {ls : Value} {a b c d : Int} {v : Value}
def catB (F1 : Nat → Int) (n : Nat) (F2 : Nat → Int) (k : Nat) : Int := if k < n then F1 k else F2 (k - n)
theorem byL_cat (F1 F2 : Nat → Int) (n m : Nat) : byL F1 n ++ byL F2 m = byL (catB F1 n F2) (n + m) := by
  refine List.ext_getElem? fun j => ?_
  by_cases h1 : j < n
  · rw [List.getElem?_append_left (by rw [byL_len]; exact h1), byL_at h1, byL_at (by omega)]
    unfold catB
    rw [if_pos h1]
  · rw [List.getElem?_append_right (by rw [byL_len]; omega), byL_len]
    by_cases h2 : j < n + m
    · rw [byL_at h2, byL_at (by omega)]
      unfold catB
      rw [if_neg h1]
    · rw [List.getElem?_eq_none (by rw [byL_len]; omega), List.getElem?_eq_none (by rw [byL_len]; omega)]
/-- an image on its way -/
structure Im (W : World) (v : Value) (n : Nat) (w : World) : Prop where
  at' : ∃ F : Nat → Int, (∀ k, 0 ≤ F k ∧ F k ≤ 255) ∧ w.ownsRow W.heap.size 5 1 v n (byL F n)
  up : Up W w
theorem Im.more (h : Im W v n w) (u : Up w w') : Im W v n w' := by
  obtain ⟨F, h1, h2⟩ := h.at'
  exact ⟨⟨F, h1, ownsRow_up h2 u⟩, h.up.trans u⟩
theorem Im.app {g c : Nat} {G : Nat → Int} (h : Im W v n w) (hg : By w g 512 G) (h8 : ∀ k, 0 ≤ G k ∧ G k ≤ 255) (hn : n ≤ 3000000) : ∃ a c' w', (Builtin.append_ #[25, 25] 25 #[v, .slice (some ⟨g, 0, none⟩) 512 c]).run Try.prog w = .ok (.slice a (n + 512) c') w' ∧ Im W (.slice a (n + 512) c') (n + 512) w' ∧ n + 512 ≤ c' ∧ c' ≤ 9223372036854775807 := by
  obtain ⟨F, h1, h2⟩ := h.at'
  obtain ⟨v', w', hr, h3, h4, _, h5⟩ := run_append_own_at (P := Try.prog) w W.heap.size 25 25 5 Try.t5 (.int .u8 0) 1 1 Try.underlying25 (by kernel_rfl) (by kernel_rfl) (by kernel_rfl) (by kernel_rfl) rfl (by decide) v n _ h2 ⟨g, 0, none⟩ 512 c (byL G 512) (by rw [byL_len]) (fun j u hj => by
    have hjn : j < 512 := by have := (List.getElem?_eq_some_iff.1 hj).1; rwa [byL_len] at this
    rw [Addr.add_lit, Nat.zero_add, hg.cell j hjn]
    rw [byL_at hjn] at hj
    exact hj) (byL_one G 512) (by unfold maxLen; omega) (by omega) h.up.size
  rw [byL_cat] at h3
  have up' : Up W w' := grown_upB h.up h2 h4
  have im : Im W v' (n + 512) w' := ⟨⟨_, fun k => by unfold catB; split; exact h1 k; exact h8 _, h3⟩, up'⟩
  obtain ⟨a, c', rfl, e1, e2⟩ := own_sl h3
  exact ⟨a, c', w', hr, im, e1, e2⟩
theorem Im.zeros {k : Nat} (h : Im W v n w) (hk : k ≤ 100000) (hn : n ≤ 3000000) : ∃ a c' w', (Builtin.append_ #[25, 3] 25 #[v, .int .i64 (k : Int)]).run Try.prog w = .ok (.slice a (n + k) c') w' ∧ Im W (.slice a (n + k) c') (n + k) w' := by
  obtain ⟨F, h1, h2⟩ := h.at'
  obtain ⟨v', w', hr, h3, h4⟩ := own_zeros h2 hk (by omega) h.up.size
  have up' : Up W w' := grown_upB h.up h2 h4
  have im : Im W v' (n + k) w' := ⟨⟨_, fun j => by unfold zerF; split; exact h1 j; decide, h3⟩, up'⟩
  obtain ⟨a, c', rfl, e1, e2⟩ := own_sl h3
  exact ⟨a, c', w', hr, im⟩
set_option maxRecDepth 100000 in
set_option maxHeartbeats 8000000 in
theorem stepOf (h : Wd W0 wb ρ ps Ss Ss S L H hf W) (hN : L.es.length ≤ N) (hP : ∀ s ∈ Ss, s.pend.length ≤ N) (hb : I64 b) (hc : I64 c) :
    Calls Try.prog 4 #[.pointer (some ⟨wb, 0, none⟩), .agg #[.int .i64 2, .int .i64 a, .int .i64 b, .int .i64 c, .int .i64 d, ls]] W (StepAns W0 wb N ρ W) := by
  have HH : Hid _ := h
  have HN : Hid (L.es.length ≤ N ∧ ∀ s ∈ Ss, s.pend.length ≤ N) := ⟨hN, hP⟩
  obtain ⟨KN, hKN, hK2⟩ := pickN (c := b) (n := 4099) (by omega)
  have HPb : Hid (∀ w, Calls Try.prog 9 #[.int .i64 b, .int .i64 4099] w fun e w' => e = .returned (.int .i64 (KN : Int)) ∧ w' = w) := fun w => by
    have q := pick_any b 4099 w hb (by decide) (by decide)
    rw [show pickI b 4099 = (KN : Int) from hKN] at q
    exact q
  obtain ⟨ZN, hZN, hZ2⟩ := pickN (c := c) (n := 512) (by omega)
  have HPc : Hid (∀ w, Calls Try.prog 9 #[.int .i64 c, .int .i64 512] w fun e w' => e = .returned (.int .i64 (ZN : Int)) ∧ w' = w) := fun w => by
    have q := pick_any c 512 w hc (by decide) (by decide)
    rw [show pickI c 512 = (ZN : Int) from hZN] at q
    exact q
  clear h hN hP hKN hZN hb hc
  go_enter Try.func4, Try.ntmps4
  go_wp2_with fail
  have u1 : Up W (W.alloc (Obj.cells (opC 2 a b c d ls) 31)) := (Up.refl W).alloc _
  have HO : Hid (∀ w, Up (W.alloc (Obj.cells (opC 2 a b c d ls) 31)) w → w.cell? ⟨W.heap.size, 2, none⟩ = some (.int .i64 b) ∧ w.cell? ⟨W.heap.size, 3, none⟩ = some (.int .i64 c)) := fun w u => ⟨cell_up u (heap_cell (heap_alloc_new W _) rfl), cell_up u (heap_cell (heap_alloc_new W _) rfl)⟩
  have HU1 : Hid _ := u1
  have HI0 : Hid (Im (W.alloc (Obj.cells (opC 2 a b c d ls) 31)) (.slice none 0 0) 0 (W.alloc (Obj.cells (opC 2 a b c d ls) 31))) := ⟨⟨fun _ => 0, fun _ => (show (0 : Int) ≤ 0 ∧ (0 : Int) ≤ 255 by decide), own_none _ _ _⟩, Up.refl _⟩
  clear u1
  generalize World.alloc W _ = W1 at HO HU1 HI0 ⊢
  generalize W.heap.size = ob at HO ⊢
  go_loopw [9, 10] (fun V I wr => ∃ (i : Nat) (va : Option Addr) (vc : Nat), i ≤ KN ∧ V = .slice va (512 * i) vc ∧ I = .int .i64 (i : Int) ∧ Hid (Im W1 (.slice va (512 * i) vc) (512 * i) wr)) (fun _ I _ => KN - (intOf I).toNat)
  case atStart => exact ⟨0, none, 0, Nat.zero_le _, rfl, rfl, HI0⟩
  case round =>
    clear HI0
    obtain ⟨i, va, vc, hi, rfl, rfl, M0⟩ := hrel
    obtain ⟨ko2, ko3⟩ := HO.out wr M0.out.up
    go_wp2_with fail
    refine Calls.mono (HPb.out _) ?_
    rintro e w' ⟨rfl, hw⟩
    obtain rfl := hw.symm
    clear hw
    by_cases hlt : i < KN
    · have e1 : (i : Int) < (KN : Int) := by omega
      obtain ⟨X, hX⟩ : ∃ X, X = IntKind.i64.wrap (b + (i : Int)) := ⟨_, rfl⟩
      have hX2 : I64 X := by rw [hX, IntKind.wrap_i64]; unfold I64; omega
      have HX : Hid (I64 X) := hX2
      have hX3 : IntKind.i64.wrap (b + (i : Int)) = X := hX.symm
      have hwi : IntKind.i64.wrap ((i : Int) + 1) = (i : Int) + 1 := by rw [IntKind.wrap_i64]; omega
      clear hX hX2
      go_wp2_with fail
      refine Calls.mono (filled_any (v := X) (more := 0) (m := 512) HX.out (by omega) (by omega)) ?_
      rintro e w2 ⟨g, gc, rfl, q1, q2, q3, q4, u2⟩
      obtain ⟨va', vc', w3, hr, him, hv1, hv2⟩ := (M0.out.more u2).app (c := gc) q2 (fillF_b X) (by omega)
      have HR : Hid _ := hr
      have HM : Hid _ := him
      have hgm : gc ≤ 9223372036854775807 := by unfold maxLen at q4; omega
      clear hr him q1 q2 u2 M0 ko2 ko3 q4
      go_wp2_with (at_builtin; refine Lib.wpList_append_run _ rfl _ _ _ _ rfl _ _ rfl rfl _ _ HR.out ?_; clear HR)
      refine ⟨⟨i + 1, va', vc', by omega, by first | rfl | (simp; done) | (rw [show 512 * (i + 1) = 512 * i + 512 by omega]), by first | rfl | (simp; done) | (rw [hwi]; rfl), ?_⟩, ?_⟩
      · rw [show 512 * (i + 1) = 512 * i + 512 by omega]; exact HM
      · simp [intOf]; omega
    · have e1 : ¬ (i : Int) < (KN : Int) := by omega
      obtain ⟨va', vc', w3, hr, him⟩ := M0.out.zeros (k := ZN) (by omega) (by omega)
      have HR : Hid _ := hr
      have HM : Hid _ := him
      clear hr him M0
      go_wp2_with fail
      refine Calls.mono (HPc.out _) ?_
      rintro e w' ⟨rfl, hw⟩
      obtain rfl := hw.symm
      clear hw
      have HF : Hid (∃ ρ1, Wd W0 wb ρ1 ps Ss Ss S L H hf w3 ∧ Mv (fun r => r = 6) ρ ρ1 W w3) := ⟨_, HH.out.upR (HU1.out.trans HM.out.up) 5, Mv.ofUp ρ (HU1.out.trans HM.out.up) 5⟩
      clear ko2 ko3 HO
      go_wp2_with (at_builtin; refine Lib.wpList_append_run _ rfl _ _ _ _ rfl _ _ rfl rfl _ _ HR.out ?_; clear HR)
      refine Calls.mono (by
        obtain ⟨ρ1, z1, z2⟩ := HF.out
        obtain ⟨F, f8, fo⟩ := HM.out.at'
        obtain ⟨aa, ab, ao, cc, e, hy, _⟩ := byts_own fo f8
        rw [e]
        exact (of_any z1 HN.out.1 HN.out.2 hy (by omega)).mono fun e w' q => q.pre z2) ?_
      intro e w5 h5
      have H5 : Hid _ := h5
      have he := h5.1
      clear h5
      subst he
      go_wp2_with fail
      go_ret
      exact ⟨by first | rfl | (simp; done), H5.out.2⟩
end Go.Proofs.Ytekffilokdmfgaa
