/- ArenaNumbers: the walk. -/
import Derived.Test.YtdiaafhnjkimlaaArS
namespace Go.Proofs.Ytdiaafhnjkimlaa
open Go.RowKit
set_option linter.unusedVariables false
variable {W w w' : World}
/-- a row of truths -/
structure BoAt (w : World) (g n : Nat) (f : Nat → Bool) : Prop where
  row : ∃ cs, w.heap[g]? = some (.cells cs 4 (0, 0)) ∧ cs.size = n ∧ ∀ k, k < n → cs[k]? = some (.bool (f k))
theorem BoAt.lt {g n : Nat} {f : Nat → Bool} (h : BoAt w g n f) : g < w.heap.size := by
  obtain ⟨cs, h1, _⟩ := h.row
  exact heap_at h1
theorem BoAt.cell {g n : Nat} {f : Nat → Bool} (h : BoAt w g n f) (k : Nat) (hk : k < n) : w.cell? ⟨g, k, none⟩ = some (.bool (f k)) := by
  obtain ⟨cs, h1, h2, h3⟩ := h.row
  exact heap_cell h1 (h3 k hk)
theorem BoAt.fz {g n : Nat} {f : Nat → Bool} (h : BoAt w g n f) (k : Nat) : w.frozen? ⟨g, k, none⟩ = false := by
  obtain ⟨cs, h1, _⟩ := h.row
  exact heap_fz h1
theorem BoAt.of_block {g n : Nat} {f : Nat → Bool} (h : BoAt w g n f) (e : w'.heap[g]? = w.heap[g]?) : BoAt w' g n f := by
  obtain ⟨cs, h1, h2⟩ := h.row
  exact ⟨cs, e.trans h1, h2⟩
def updB (f : Nat → Bool) (i : Nat) (x : Bool) : Nat → Bool := fun k => if k = i then x else f k
theorem updB_same (f : Nat → Bool) (i : Nat) (x : Bool) : updB f i x i = x := if_pos rfl
theorem updB_ne (f : Nat → Bool) {i k : Nat} (x : Bool) (h : k ≠ i) : updB f i x k = f k := if_neg h
theorem BoAt.set {g n : Nat} {f : Nat → Bool} (h : BoAt w g n f) (i : Nat) (hi : i < n) (x : Bool) : BoAt (w.setCell ⟨g, i, none⟩ (.bool x)) g n (updB f i x) := by
  obtain ⟨cs, h1, h2, h3⟩ := h.row
  refine ⟨cs.setIfInBounds i (.bool x), heap_setCell_same w g i _ _ _ h1, by simp [h2], fun j hj => ?_⟩
  rw [Array.getElem?_setIfInBounds]
  unfold updB
  by_cases e : j = i
  · subst e
    rw [if_pos rfl, if_pos (by omega), if_pos rfl]
  · rw [if_neg (fun e' => e e'.symm), if_neg e]
    exact h3 j hj
theorem made_bo (w : World) (n : Nat) : BoAt (w.alloc (.cells (madeCells #[.bool false] n) 4)) w.heap.size n (fun _ => false) := by
  refine ⟨_, heap_alloc_new w _, by simp [madeCells], fun k hk => ?_⟩
  simp [madeCells, hk, Nat.mod_one]
/-- arenas that are open by p, and a row of truths b -/
structure Nb (W : World) (pb ob n : Nat) (p b : Nat → Bool) (w : World) : Prop where
  at' : ∃ K P, Pb W K pb P w ∧ K ob ∧ P.ars.length = n ∧ ∀ j, j < n → P.ars[j]? = some (if p j = true then some ⟨5, []⟩ else none)
  nw : W.heap.size ≤ ob
  bo : BoAt w ob n b
variable {pb ob n : Nat} {p b : Nat → Bool}
theorem Nb.up (h : Nb W pb ob n p b w) : Up W w := by
  obtain ⟨K, P, h1, _⟩ := h.at'
  exact h1.up
theorem Nb.store (h : Nb W pb ob n p b w) (i : Nat) (hi : i < n) (x : Bool) : Nb W pb ob n p (updB b i x) (w.setCell ⟨ob, i, none⟩ (.bool x)) := by
  obtain ⟨K, P, h1, h2, h3⟩ := h.at'
  exact ⟨⟨K, P, h1.frB ((Fr.refl ob w).setCell) h2 h.nw, h2, h3⟩, h.nw, h.bo.set i hi x⟩
theorem arn_of {P : Pl} {k : Nat} (hn : P.ars.length = n) (h : ∀ j, j < n → P.ars[j]? = some (if p j = true then some ⟨5, []⟩ else none)) (hk : k < n) (hp : p k = false) : P.arn (k : Int) = none := by
  unfold Pl.arn
  rw [if_pos (by omega), Int.toNat_natCast, h k hk, hp]
  rfl
theorem Nb.close (h : Nb W pb ob n p b w) {k : Nat} (hk : k < n) (hp : p k = true) : Calls Try.prog 13 #[.pointer (some ⟨pb, 0, none⟩), .int .i64 (k : Int)] w fun e w' => e = .returned (.tuple #[.int .i64 0, .int .i64 0]) ∧ Nb W pb ob n (updB p k false) b w' := by
  obtain ⟨K, P, h1, h2, h3, h4⟩ := h.at'
  have ha : P.ars[k]? = some (some ⟨5, []⟩) := by rw [h4 k hk, if_pos hp]
  refine (h1.close ha).mono fun e w' ⟨g1, g2, g3⟩ => ⟨g1, ⟨⟨K, _, g2, h2, ?_, fun j hj => ?_⟩, h.nw, h.bo.of_block (g3.block ob h.bo.lt h2)⟩⟩
  · unfold Pl.closed Pl.setArn Pl.relAll
    simp [h3]
  · show (P.ars.set k none)[j]? = _
    rw [List.getElem?_set]
    by_cases e : k = j
    · subst e
      rw [if_pos rfl, if_pos (by omega), updB_same]
      rfl
    · rw [if_neg e, updB_ne _ _ (fun e' => e e'.symm)]
      exact h4 j hj
theorem Nb.closeNo (h : Nb W pb ob n p b w) (hn : n ≤ 64) {k : Nat} (hk : k < n) (hp : p k = false) : Calls Try.prog 13 #[.pointer (some ⟨pb, 0, none⟩), .int .i64 (k : Int)] w fun e w' => e = .returned (.tuple #[.int .i64 0, .int .i64 94]) ∧ w' = w := by
  obtain ⟨K, P, h1, h2, h3, h4⟩ := h.at'
  exact h1.closeNone ⟨by omega, by omega⟩ (arn_of h3 h4 hk hp)
theorem Nb.open (h : Nb W pb ob n p b w) {l : Nat} (hl : l < n) (hp : p l = false) (hj : ∀ j, j < l → p j = true) : Calls Try.prog 14 #[.pointer (some ⟨pb, 0, none⟩), .int .i64 5] w fun e w' => e = .returned (.tuple #[.int .i64 (l : Int), .int .i64 0]) ∧ Nb W pb ob n (updB p l true) b w' := by
  obtain ⟨K, P, h1, h2, h3, h4⟩ := h.at'
  have hx : P.next = l := by
    unfold Pl.next
    refine findIdx_hit (x := none) (by rw [h4 l hl, hp]; rfl) rfl fun j y hj' hy => ?_
    rw [h4 j (by omega), hj j hj'] at hy
    injection hy with hy
    rw [← hy]
    rfl
  have := h1.open (q := 5) ⟨by decide, by decide⟩ (by decide) (by rw [hx, h3]; exact hl)
  rw [hx] at this
  refine this.mono fun e w' ⟨g1, g2, g3⟩ => ⟨g1, ⟨⟨K, _, g2, h2, ?_, fun j hj' => ?_⟩, h.nw, h.bo.of_block (g3.block ob h.bo.lt h2)⟩⟩
  · unfold Pl.opened Pl.setArn
    simp [h3]
  · show (P.ars.set P.next (some ⟨5, []⟩))[j]? = _
    rw [hx, List.getElem?_set]
    by_cases e : l = j
    · subst e
      rw [if_pos rfl, if_pos (by omega), updB_same]
      rfl
    · rw [if_neg e, updB_ne _ _ (fun e' => e e'.symm)]
      exact h4 j hj'
theorem Nb.openNo (h : Nb W pb ob n p b w) (hj : ∀ j, j < n → p j = true) : Calls Try.prog 14 #[.pointer (some ⟨pb, 0, none⟩), .int .i64 5] w fun e w' => e = .returned (.tuple #[.int .i64 0, .int .i64 93]) ∧ w' = w := by
  obtain ⟨K, P, h1, h2, h3, h4⟩ := h.at'
  refine h1.openMany ⟨by decide, by decide⟩ (by decide) ?_
  have : P.next = P.ars.length := by
    unfold Pl.next
    refine findIdx_none fun j y hy => ?_
    have hjl := (List.getElem?_eq_some_iff.1 hy).1
    rw [h4 j (by omega), hj j (by omega)] at hy
    injection hy with hy
    rw [← hy]
    rfl
  omega
set_option maxRecDepth 100000 in
set_option maxHeartbeats 4000000 in
theorem numbers_walk {sa : Option Addr} {sb so sl sc : Nat} {f : Nat → Int} {m0 : Int} (D : Ints W sa sb so sl sc f) (hm : I64 m0) :
    Calls Try.prog 3 #[.slice sa sl sc, .int .i64 m0] W fun e w' => e = .returned (.bool true) ∧ Up W w' := by
  have HD : Hid (∀ w', Up W w' → Ints w' sa sb so sl sc f) := fun w' u => ⟨D.lc, D.cm, D.ad, D.i64, fun k hk => (u.cell (World.block_lt_of_cell? _ _ (D.cell k hk))).trans (D.cell k hk)⟩
  have HPm : Hid (∀ W, Calls Try.prog 11 #[.int .i64 m0, .int .i64 64] W fun e w' => e = .returned (.int .i64 (pickI m0 64)) ∧ w' = W) := fun W => pick_any m0 64 W hm (by decide) (by decide)
  have m1 := pickI_lo m0 64 (by decide)
  have m2 := pickI_hi m0 64 (by decide)
  have l1 := D.lc
  have l2 : sc ≤ 9223372036854775807 := by have := D.cm; unfold maxLen at this; omega
  clear D hm
  generalize pickI m0 64 = MI at *
  obtain ⟨m, rfl⟩ := Int.eq_ofNat_of_zero_le m1
  obtain ⟨n, hn⟩ : ∃ n, n = 1 + m := ⟨_, rfl⟩
  have hn1 : 1 ≤ n := by omega
  have hn2 : n ≤ 64 := by omega
  have en : (1 : Int) + (m : Int) = (n : Int) := by omega
  have hmk : ∀ w : World, (Instr.makeSlice 33 (.int .i64 (n : Int)) (.int .i64 (n : Int))).run Try.prog w = .ok (.slice (some ⟨w.heap.size, 0, none⟩) n n) (w.alloc (.cells (madeCells #[.bool false] n) 4)) := fun w => by
    have := run_make (P := Try.prog) w 33 4 Try.t4 (.bool false) Try.underlying33 (by kernel_rfl) rfl .i64 .i64 (n : Int) (n : Int) (by omega) (by omega) (by show (1 : Int) * (n : Int) ≤ 281474976710656; omega) (by omega)
    have e1 : (Value.bool false).cells = #[Value.bool false] := rfl
    have e2 : Try.t4.size = 1 := rfl
    rw [e1, e2] at this
    simpa using this
  have HC : Hid (Cfg [(1, 1)] n) := by
    refine ⟨by decide, by decide, hn1, hn2, fun k x hx => ?_, by decide⟩
    match k, hx with
    | 0, hx => simp at hx; subst hx; decide
    | k + 1, hx => simp at hx
  clear hn
  go_enter Try.func3, Try.ntmps3
  go_wp2_with fail
  refine (HPm.out _).mono ?_
  rintro e w' ⟨rfl, hw'⟩
  obtain rfl := hw'.symm
  clear HPm
  go_wp2_with fail
  have ua : Up W (W.alloc (Obj.cells #[.int .i64 1, .int .i64 1] 29)) := (Up.refl W).alloc _
  have ka : (W.alloc (Obj.cells #[.int .i64 1, .int .i64 1] 29)).heap[W.heap.size]? = some (.cells #[.int .i64 1, .int .i64 1] 29 (0, 0)) := heap_alloc_new W _
  have HNew : Hid _ := new_ok (K := fun b => b < (W.alloc (Obj.cells #[.int .i64 1, .int .i64 1] 29)).heap.size) (g := W.heap.size) (o := 0) (cap := 1) HC.out (Nat.le_refl _) (by decide) (fun w u k x hx => by
    match k, hx with
    | 0, hx =>
      simp at hx
      subst hx
      have hb := (u.block _ (heap_at ka)).trans ka
      exact range2 (heap_cell hb rfl) (heap_cell hb rfl)
    | k + 1, hx => simp at hx) (fun b hb => hb)
  have HUa : Hid (Up W (W.alloc (Obj.cells #[.int .i64 1, .int .i64 1] 29))) := ua
  clear ua ka
  generalize World.alloc W _ = Wa at HNew HUa ⊢
  generalize W.heap.size = cb at HNew ⊢
  refine Calls.mono HNew.out ?_
  rintro e w2 ⟨pb, rfl, hpb, hP, u2⟩
  have H2 : Hid (PlAt (fun b => b < Wa.heap.size) w2 pb (Pl.new [(1, 1)] n) ∧ Up Wa w2) := ⟨hP, u2⟩
  clear hP u2 HNew hpb
  go_wp2_with fail
  have N3 : Nb W pb w2.heap.size n (fun _ => false) (fun _ => false) (w2.alloc (Obj.cells (madeCells #[.bool false] n) 4)) := by
    have ub := (Up.refl w2).alloc (Obj.cells (madeCells #[.bool false] n) 4)
    have hz : w2.heap.size < (w2.alloc (Obj.cells (madeCells #[.bool false] n) 4)).heap.size := by simp
    refine ⟨⟨fun b => b < Wa.heap.size ∨ b = w2.heap.size, Pl.new [(1, 1)] n, ⟨H2.out.1.upK ub (fun b hb => hb.imp id (fun e => by omega)), Ok.new HC.out, HUa.out.trans (H2.out.2.trans ub), fun b hb => Or.inl (Nat.lt_of_lt_of_le hb HUa.out.size)⟩, Or.inr rfl, ?_, fun j hj => ?_⟩, Nat.le_trans HUa.out.size H2.out.2.size, made_bo w2 n⟩
    · show (List.replicate n none).length = n
      rw [List.length_replicate]
    · show (List.replicate n none)[j]? = _
      rw [List.getElem?_replicate, if_pos hj]
      rfl
  have HN : Hid (∃ op, Nb W pb w2.heap.size n op op (w2.alloc (Obj.cells (madeCells #[.bool false] n) 4))) := ⟨_, N3⟩
  clear N3 H2 HUa HC hmk en
  generalize World.alloc w2 _ = w3 at HN ⊢
  generalize w2.heap.size = ob at HN ⊢
  go_loopw [9, 10, 11, 12, 13, 14, 15, 16, 17] (fun I _ _ _ _ _ _ _ _ wr => ∃ i : Nat, i ≤ 150 ∧ I = .int .i64 i ∧ Hid (∃ op, Nb W pb ob n op op wr)) (fun I _ _ _ _ _ _ _ _ _ => 150 - (intOf I).toNat)
  case atStart => exact ⟨0, by omega, rfl, HN⟩
  case round =>
    clear HN
    obtain ⟨i, hi, rfl, M0⟩ := hrel
    obtain ⟨op, hop⟩ := M0.out
    by_cases hgo : i < sl ∧ i < 150
    · obtain ⟨hlt, hi6⟩ := hgo
      have d1 : decide ((i : Int) < (sl : Int)) = true := decide_eq_true (by omega)
      have d2 : decide ((i : Int) < 150) = true := decide_eq_true (by omega)
      have e1 : (i : Int) < (sl : Int) := by omega
      have e2 : (i : Int) < 150 := by omega
      have ee := HD.out wr hop.up
      obtain rfl := ee.ad (by omega)
      have kc := ee.cell i hlt
      have ic := ee.i64 i
      have HPk : Hid (∀ W, Calls Try.prog 11 #[.int .i64 (f i), .int .i64 ((n : Int) + 3)] W fun e w' => e = .returned (.int .i64 (pickI (f i) ((n : Int) + 3))) ∧ w' = W) := fun W => pick_any (f i) _ W ic (by omega) (by omega)
      have p1 := pickI_lo (f i) ((n : Int) + 3) (by omega)
      have p2 := pickI_hi (f i) ((n : Int) + 3) (by omega)
      have HNb : Hid (Nb W pb ob n op op wr) := hop
      clear ee ic hop M0
      generalize f i = X at *
      generalize pickI X ((n : Int) + 3) = KI at *
      obtain ⟨k, rfl⟩ := Int.eq_ofNat_of_zero_le p1
      go_wp2_with fail
      refine (HPk.out _).mono ?_
      rintro e w' ⟨rfl, hw'⟩
      obtain rfl := hw'.symm
      clear HPk kc
      go_wp2_with fail
      obtain ⟨wo, rfl⟩ : ∃ wo : World, wo = wr := ⟨_, rfl⟩
      have HB : Hid (∀ j, j < n → wo.cell? ⟨ob, j, none⟩ = some (.bool (op j))) := fun j hj => HNb.out.bo.cell j hj
      go_loop [11] (fun L => ∃ l : Nat, l ≤ n ∧ L = .int .i64 l ∧ Hid (∀ j, j < l → op j = true)) (fun L => n - (intOf L).toNat)
      case atStart => exact ⟨0, by omega, rfl, fun j hj => absurd hj (by omega)⟩
      case round =>
        obtain ⟨l, hl, rfl, HA⟩ := hrel
        by_cases hmore : l < n ∧ op l = true
        · obtain ⟨hln, hop⟩ := hmore
          have d3 : (l : Int) < (n : Int) := by omega
          have kb := HB.out l hln
          rw [hop] at kb
          clear HB HD
          go_wp2_with fail
          go_round
          case rel =>
            refine ⟨l + 1, by omega, by go_num, fun j hj => ?_⟩
            by_cases e : j = l
            · subst e
              exact hop
            · exact HA.out j (by omega)
          case measure => simp [intOf]; omega
        · have HL : Hid (l = n ∨ (l < n ∧ op l = false)) := by
            by_cases h1 : l < n
            · refine Or.inr ⟨h1, ?_⟩
              cases h2 : op l
              · rfl
              · exact absurd ⟨h1, h2⟩ hmore
            · exact Or.inl (by omega)
          rcases HL.out with rfl | ⟨hln, hol⟩
          · have d3 : ¬ (l : Int) < (l : Int) := by omega
            have d3b : ((l : Int) == (l : Int)) = true := by simp
            by_cases hkn : k < l
            · have d4 : (k : Int) < (l : Int) := by omega
              have kk := HB.out k hkn
              cases hok : op k
              · rw [hok] at kk
                have HO1 : Hid _ := HNb.out.openNo HA.out
                have HX : Hid (∃ op, Nb W pb ob l op op wo) := ⟨_, HNb.out⟩
                clear HB HA HL HD HNb
                go_wp2_with fail
                refine Calls.mono HO1.out ?_
                rintro e w' ⟨rfl, hw'⟩
                obtain rfl := hw'.symm
                clear HO1
                go_wp2_with fail
                refine ⟨⟨i + 1, by omega, by first | rfl | (simp; done), HX⟩, ?_⟩
                simp [intOf]
                try omega
              · rw [hok] at kk
                have HC1 : Hid _ := HNb.out.close hkn hok
                clear HB HA HL HD
                go_wp2_with fail
                refine Calls.mono HC1.out ?_
                rintro e w7 ⟨rfl, h7⟩
                have H7 : Hid (Nb W pb ob l (updB op k false) op w7) := h7
                clear h7 HC1
                have HC2 : Hid _ := H7.out.closeNo hn2 hkn (updB_same op k false)
                go_wp2_with fail
                refine Calls.mono HC2.out ?_
                rintro e w' ⟨rfl, hw'⟩
                obtain rfl := hw'.symm
                have k7 := H7.out.bo.cell k hkn
                have z7 := H7.out.bo.fz k
                have H8 : Hid (∃ op, Nb W pb ob l op op (w7.setCell ⟨ob, k, none⟩ (.bool false))) := ⟨_, H7.out.store k hkn false⟩
                clear H7 HC2 HNb
                go_wp2_with fail
                refine ⟨⟨i + 1, by omega, by first | rfl | (simp; done), H8⟩, ?_⟩
                simp [intOf]
                try omega
            · have d4 : ¬ (k : Int) < (l : Int) := by omega
              have HO1 : Hid _ := HNb.out.openNo HA.out
              have HX : Hid (∃ op, Nb W pb ob l op op wo) := ⟨_, HNb.out⟩
              clear HB HA HL HD HNb
              go_wp2_with fail
              refine Calls.mono HO1.out ?_
              rintro e w' ⟨rfl, hw'⟩
              obtain rfl := hw'.symm
              clear HO1
              go_wp2_with fail
              refine ⟨⟨i + 1, by omega, by first | rfl | (simp; done), HX⟩, ?_⟩
              simp [intOf]
              try omega
          · have d3 : (l : Int) < (n : Int) := by omega
            have kl := HB.out l hln
            rw [hol] at kl
            by_cases hkn : k < n
            · have d4 : (k : Int) < (n : Int) := by omega
              have kk := HB.out k hkn
              cases hok : op k
              · rw [hok] at kk
                have HO1 : Hid _ := HNb.out.open hln hol HA.out
                have d9 : ((l : Int) == (n : Int)) = false := beq_eq_false_iff_ne.2 (by omega)
                clear HB HA HL HD
                go_wp2_with fail
                refine Calls.mono HO1.out ?_
                rintro e w7 ⟨rfl, h7⟩
                have H7 : Hid (Nb W pb ob n (updB op l true) op w7) := h7
                clear h7 HO1
                have k7 := H7.out.bo.cell l hln
                have z7 := H7.out.bo.fz l
                have H8 : Hid (∃ op, Nb W pb ob n op op (w7.setCell ⟨ob, l, none⟩ (.bool true))) := ⟨_, H7.out.store l hln true⟩
                clear H7 HNb
                go_wp2_with fail
                refine ⟨⟨i + 1, by omega, by first | rfl | (simp; done), H8⟩, ?_⟩
                simp [intOf]
                try omega
              · rw [hok] at kk
                have HC1 : Hid _ := HNb.out.close hkn hok
                clear HB HA HL HD
                go_wp2_with fail
                refine Calls.mono HC1.out ?_
                rintro e w7 ⟨rfl, h7⟩
                have H7 : Hid (Nb W pb ob n (updB op k false) op w7) := h7
                clear h7 HC1
                have HC2 : Hid _ := H7.out.closeNo hn2 hkn (updB_same op k false)
                go_wp2_with fail
                refine Calls.mono HC2.out ?_
                rintro e w' ⟨rfl, hw'⟩
                obtain rfl := hw'.symm
                have k7 := H7.out.bo.cell k hkn
                have z7 := H7.out.bo.fz k
                have H8 : Hid (∃ op, Nb W pb ob n op op (w7.setCell ⟨ob, k, none⟩ (.bool false))) := ⟨_, H7.out.store k hkn false⟩
                clear H7 HC2 HNb
                go_wp2_with fail
                refine ⟨⟨i + 1, by omega, by first | rfl | (simp; done), H8⟩, ?_⟩
                simp [intOf]
                try omega
            · have d4 : ¬ (k : Int) < (n : Int) := by omega
              have HO1 : Hid _ := HNb.out.open hln hol HA.out
              have d9 : ((l : Int) == (n : Int)) = false := beq_eq_false_iff_ne.2 (by omega)
              clear HB HA HL HD
              go_wp2_with fail
              refine Calls.mono HO1.out ?_
              rintro e w7 ⟨rfl, h7⟩
              have H7 : Hid (Nb W pb ob n (updB op l true) op w7) := h7
              clear h7 HO1
              have k7 := H7.out.bo.cell l hln
              have z7 := H7.out.bo.fz l
              have H8 : Hid (∃ op, Nb W pb ob n op op (w7.setCell ⟨ob, l, none⟩ (.bool true))) := ⟨_, H7.out.store l hln true⟩
              clear H7 HNb
              go_wp2_with fail
              refine ⟨⟨i + 1, by omega, by first | rfl | (simp; done), H8⟩, ?_⟩
              simp [intOf]
              try omega
    · have HU : Hid (Up W wr) := hop.up
      have HO1 : Hid (Calls Try.prog 14 #[.pointer (some ⟨pb, 0, none⟩), .int .i64 (-1)] wr fun e w' => e = .returned (.tuple #[.int .i64 0, .int .i64 92]) ∧ w' = wr) := open_low ⟨by decide, by decide⟩ (by decide)
      clear hop M0 HD
      by_cases hic : i < sl
      all_goals
        first
        | (have d1 : decide ((i : Int) < (sl : Int)) = true := decide_eq_true (by omega)
           have e1 : (i : Int) < (sl : Int) := by omega
           have d2 : decide ((i : Int) < 150) = false := decide_eq_false (by omega)
           have e2 : ¬ (i : Int) < 150 := by omega)
        | (have d1 : decide ((i : Int) < (sl : Int)) = false := decide_eq_false (by omega)
           have e1 : ¬ (i : Int) < (sl : Int) := by omega)
        clear hgo hi hic
        go_wp2_with fail
        refine Calls.mono HO1.out ?_
        rintro e w' ⟨rfl, hw'⟩
        obtain rfl := hw'.symm
        go_wp2_with fail
        go_ret
        exact ⟨by first | rfl | (simp; done), HU.out⟩
end Go.Proofs.Ytdiaafhnjkimlaa
