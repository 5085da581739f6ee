/- Sprites are drawn, up to ten on a line. -/
import Derived.Test.YtmjfccdhjhkocaaPsE
import Derived.Test.YtmjfccdhjhkocaaPsP
namespace Go.Proofs.Ytmjfccdhjhkocaa
open Go.RowKit
set_option linter.unusedVariables false
variable {b : Nat} {p : Pic}
/-- the sprites of a line, as they are drawn -/
def Pic.sorted (p : Pic) (M : Nat) : List Spr := sortTo (p.found M).length (p.found M)
theorem Pic.sorted_len (p : Pic) (M : Nat) : (p.sorted M).length = (p.found M).length := sortTo_len _ _
set_option maxRecDepth 100000 in
set_option maxHeartbeats 4000000 in
theorem drawSpritesS_any (i : p.In) (h4 : p.has 4 = false) {M : Nat} (hM : M = 40) (A : Nat) (hA : A ≤ 22880) (D0 : Nat → Int) (g : Nat) (hgb : g ≠ b) (N : Nat → Int) (W : World) (h : PxAt W b (p.setLine A D0 160)) (hN : NmAt W g 160 N) :
    Calls Try.prog 74 #[.pointer (some ⟨b, 0, none⟩), .slice (some ⟨b, 8367 + A, none⟩) 160 (23040 - A), .pointer (some ⟨g, 0, none⟩)] W fun e w' => e = .returned (.tuple #[]) ∧ PxAt w' b (p.setLine A (p.sprAll N (p.sorted M) ⟨fun _ => false, D0⟩).D 160) ∧ Fr b W w' := by
  have hbl := h.lt
  have hgl := hN.lt
  have HP : Hid (PxAt W b (p.setLine A D0 160) ∧ NmAt W g 160 N) := And.intro h hN
  have HI : Hid p.In := i
  have HF : Hid (∀ w lb D, lb ≠ b → PxAt w b (p.setLine A D 160) → LsAt w lb [] → Calls Try.prog 80 #[.pointer (some ⟨b, 0, none⟩), .slice (some ⟨lb, 0, none⟩) 0 10] w fun e w' => e = .returned (.slice (some ⟨lb, 0, none⟩) (p.sorted M).length 10) ∧ LsAt w' lb (p.found M) ∧ Fr lb w w') := fun w lb D hl h1 h2 => by
    have := findSprites_any (p := p.setLine A D 160) ⟨HI.out.vr, HI.out.oa, HI.out.rg⟩ hM lb hl w h1 h2
    rw [Pic.found_line] at this
    rw [p.sorted_len]
    exact this
  have HOn : Hid (∀ s ∈ p.sorted M, s.In ∧ p.onLine s = true) := fun s hs => Pic.found_on p i M s (sortTo_mem _ _ s hs)
  have hn10 : (p.sorted M).length ≤ 10 := by rw [p.sorted_len]; exact p.found_len M
  have HSo : Hid (∀ lb w, LsAt w lb (p.found M) → Calls Try.prog 81 #[.slice (some ⟨lb, 0, none⟩) (p.sorted M).length 10, .func (.func 82) #[] #[]] w fun e w' => e = .returned (.tuple #[]) ∧ LsAt w' lb (p.sorted M) ∧ Fr lb w w') := fun lb w h => by
    rw [p.sorted_len]
    exact sortS_any lb _ (p.found_len M) _ rfl w h
  clear h hN i
  generalize p.sorted M = L at *
  generalize p.found M = L0 at *
  go_enter Try.func74, Try.ntmps74
  go_wp2_with fail
  refine (HF.out _ _ D0 (by omega) (HP.out.1.up ((Up.refl W).alloc _)) (sprRow10 W _ _ rfl)).mono ?_
  rintro e w2 ⟨rfl, l2, F2⟩
  have u2 : Up W w2 := Fr.up ((Up.refl W).alloc _) (Nat.le_refl _) F2
  have H2 : Hid (LsAt w2 W.heap.size L0 ∧ Up W w2) := ⟨l2, u2⟩
  clear l2 u2 F2 HF
  generalize hlb : W.heap.size = lb at H2 ⊢
  have HLB : Hid (W.heap.size = lb) := hlb
  clear hlb
  go_wp2_with fail
  refine (HSo.out _ _ H2.out.1).mono ?_
  rintro e w3 ⟨rfl, l3, F3⟩
  have H3 : Hid (LsAt w3 lb L ∧ Up W w3) := ⟨l3, Fr.up H2.out.2 (Nat.le_of_eq HLB.out) F3⟩
  clear l3 F3 H2 HSo
  go_wp2_with fail
  have H4 : Hid (Dw W b g lb w3.heap.size A p N L ⟨fun _ => false, D0⟩ (w3.alloc (Obj.cells Try.zeroCells107 107))) := by
    have u := H3.out.2.alloc (Obj.cells Try.zeroCells107 107)
    have s1 := H3.out.2.size
    have s2 := H3.out.1.lt
    have s3 := HLB.out
    exact ⟨HP.out.1.up u, HP.out.2.of_block (u.block _ HP.out.2.lt), H3.out.1.of_block (((Up.refl _).alloc _).block _ H3.out.1.lt), falseRow w3, Fr.ofUp u, s1, by omega, by omega, by omega, fun e => hgb e.symm, by omega⟩
  have HT : Hid (lb < w3.heap.size ∧ W.heap.size ≤ w3.heap.size) := ⟨H3.out.1.lt, H3.out.2.size⟩
  generalize World.alloc w3 _ = w4 at H4 ⊢
  generalize w3.heap.size = tb at H4 HT ⊢
  clear H3 HP
  generalize hst : (⟨fun _ => false, D0⟩ : Dn) = st0 at H4 ⊢
  have HST : Hid _ := hst
  clear hst
  go_loopw [23] (fun I wr => ∃ (m : Nat) (st : Dn), m ≤ L.length ∧ I = .int .i64 m ∧ Hid (p.sprAll N L st0 = p.sprAll N (L.drop m) st) ∧ Hid (Dw W b g lb tb A p N L st wr)) (fun I _ => L.length - (intOf I).toNat)
  case atStart => exact ⟨0, st0, by omega, rfl, rfl, H4⟩
  case round =>
    clear H4
    obtain ⟨m, st, hm, rfl, HE, M0⟩ := hrel
    by_cases hlt : m < L.length
    · have d1 : decide ((m : Int) < (L.length : Int)) = true := decide_eq_true (by omega)
      have e1 : (m : Int) < (L.length : Int) := by omega
      obtain ⟨s, hs⟩ : ∃ s, L[m]? = some s := ⟨_, List.getElem?_eq_getElem hlt⟩
      have son := HOn.out s (List.mem_of_getElem? hs)
      have HSI : Hid s.In := son.1
      have HDr : Hid (L.drop m = s :: L.drop (m + 1)) := by
        have := List.drop_eq_getElem_cons hlt
        rw [List.getElem?_eq_getElem hlt] at hs
        rw [← Option.some.inj hs]
        exact this
      have HL4 : Hid _ := M0.out.ls.range hs
      have HSR : Hid (∀ w' D, PxAt w' b (p.setLine A D 160) → Calls Try.prog 84 #[.pointer (some ⟨b, 0, none⟩), s.val] w' fun e w'' => e = .returned (.tuple #[.int .u8 (p.vr ((s.tile * 16).toNat + 2 * p.sprR s)), .int .u8 (p.vr ((s.tile * 16).toNat + 2 * p.sprR s + 1))]) ∧ Up w' w'') := fun w' D hp => by
        have hon := son.2
        unfold Pic.onLine Pic.sprH at hon
        rw [h4] at hon
        simp at hon
        exact spriteRow_any (p := p.setLine A D 160) ⟨HI.out.vr, HI.out.oa, HI.out.rg⟩ s HSI.out h4 (by have := hon.1; show 0 ≤ p.rg 4 + 16 - s.row; omega) (by have := hon.2; show p.rg 4 + 16 - s.row ≤ 7; omega) w' hp
      unfold Spr.val at HSR
      have l0 : 0 ≤ p.vr ((s.tile * 16).toNat + 2 * p.sprR s) ∧ p.vr ((s.tile * 16).toNat + 2 * p.sprR s) ≤ 255 := HI.out.vr _
      have l1 : 0 ≤ p.vr ((s.tile * 16).toNat + 2 * p.sprR s + 1) ∧ p.vr ((s.tile * 16).toNat + 2 * p.sprR s + 1) ≤ 255 := HI.out.vr _
      clear hs son
      go_wp2_with (refine wpList_load_mid rfl 100 _ rfl lb (m * 4) rfl [.int .u8 s.row, .int .u8 s.col, .int .u8 s.tile, .int .u8 s.flg] _ HL4.out Try.underlying100 rfl (by kernel_rfl) ?_)
      have HU5 : Hid (Up wr (wr.alloc (Obj.cells #[.int .u8 s.row, .int .u8 s.col, .int .u8 s.tile, .int .u8 s.flg] 100)) ∧ (wr.alloc (Obj.cells #[.int .u8 s.row, .int .u8 s.col, .int .u8 s.tile, .int .u8 s.flg] 100)).heap[wr.heap.size]? = some (.cells #[.int .u8 s.row, .int .u8 s.col, .int .u8 s.tile, .int .u8 s.flg] 100 (0, 0)) ∧ tb < wr.heap.size ∧ b < wr.heap.size) := ⟨(Up.refl _).alloc _, heap_alloc_new wr _, M0.out.bl.lt, M0.out.px.lt⟩
      generalize World.alloc wr _ = w5 at HU5 ⊢
      generalize wr.heap.size = sk at HU5 ⊢
      have D5 : Hid (Di W b g lb tb A sk p N L s st w5) := ⟨M0.out.more HU5.out.1, HU5.out.2.1, by have := HU5.out.2.2.1; omega, by have := HU5.out.2.2.2; omega⟩
      clear HU5 M0 HL4
      refine (HSR.out _ _ D5.out.dw.px).mono ?_
      rintro e w6 ⟨rfl, u6⟩
      have D6 : Hid (Di W b g lb tb A sk p N L s st w6) := D5.out.more u6
      clear u6 D5 HSR
      have HQ : Hid (∀ st i, p.sprPt N s st i = p.sprPt N s st i) := fun _ _ => rfl
      go_wp2_with fail
      obtain ⟨LO, hLO⟩ : ∃ LO, LO = p.vr ((s.tile * 16).toNat + 2 * p.sprR s) := ⟨_, rfl⟩
      obtain ⟨HG, hHG⟩ : ∃ HG, HG = p.vr ((s.tile * 16).toNat + 2 * p.sprR s + 1) := ⟨_, rfl⟩
      rw [← hLO, ← hHG]
      rw [← hLO] at l0
      rw [← hHG] at l1
      have HLH : Hid (LO = p.vr ((s.tile * 16).toNat + 2 * p.sprR s) ∧ HG = p.vr ((s.tile * 16).toNat + 2 * p.sprR s + 1)) := ⟨hLO, hHG⟩
      clear hLO hHG
      go_loopw [33] (fun I wk => ∃ i : Nat, i ≤ 8 ∧ I = .int .i64 i ∧ Hid (Di W b g lb tb A sk p N L s (p.sprTo N s st i) wk)) (fun I _ => 8 - (intOf I).toNat)
      case atStart => exact ⟨0, by omega, rfl, D6⟩
      case round =>
        clear D6
        obtain ⟨i, hi, rfl, K0⟩ := hrel
        by_cases hli : i < 8
        · have e8 : decide ((i : Int) < 8) = true := decide_eq_true (by omega)
          have e9 : (i : Int) < 8 := by omega
          have kc : wr.cell? ⟨sk, 1, none⟩ = some (.int .u8 s.col) := K0.out.cell 1 (by decide)
          have sc := HSI.out.c
          obtain ⟨sc0, sc1⟩ := sc
          have HBt : Hid (∀ w, Calls Try.prog 86 #[s.val, .int .i64 (i : Int)] w fun e w' => e = .returned (.int .u8 (s.bit (i : Int))) ∧ Up w w') := fun w => bitAt_any s HSI.out (i : Int) (by omega) (by omega) w
          unfold Spr.val at HBt
          have bb := Spr.bit_b s (i : Int) (by omega) (by omega)
          have HNm : Hid (∀ w, Calls Try.prog 85 #[.int .u8 LO, .int .u8 HG, .int .u8 (s.bit (i : Int))] w fun e w' => e = .returned (.int .u8 (numberI LO HG (s.bit (i : Int)))) ∧ w' = w) := fun w => number_any LO HG _ bb.1 bb.2 l0.1 l0.2 l1.1 l1.2 w
          have HNum : Hid (∃ MM, MM = numberI LO HG (s.bit (i : Int))) := ⟨_, rfl⟩
          have nb := numberI_b LO HG (s.bit (i : Int)) l0.1 l0.2 l1.1 l1.2
          generalize hMM : numberI LO HG (s.bit (i : Int)) = MM at *
          generalize hBT : s.bit (i : Int) = BT at *
          have HM2 : Hid (numberI (p.vr ((s.tile * 16).toNat + 2 * p.sprR s)) (p.vr ((s.tile * 16).toNat + 2 * p.sprR s + 1)) (s.bit (i : Int)) = MM) := by show _ = _; rw [← HLH.out.1, ← HLH.out.2, hBT]; exact hMM
          clear hMM hBT HNum
          have HRg : Hid _ := K0.out.range
          go_wp2_with (refine wpList_load_mid rfl 100 _ rfl sk 0 rfl [.int .u8 s.row, .int .u8 s.col, .int .u8 s.tile, .int .u8 s.flg] _ HRg.out Try.underlying100 rfl (by kernel_rfl) ?_)
          refine (HBt.out _).mono ?_
          rintro e w7 ⟨rfl, u7⟩
          have K2 : Hid (Di W b g lb tb A sk p N L s (p.sprTo N s st i) w7) := K0.out.more u7
          clear u7 K0 HBt kc HRg
          go_wp2_with fail
          refine (HNm.out _).mono ?_
          rintro e w' ⟨rfl, hw'⟩
          obtain rfl := hw'.symm
          clear HNm
          obtain ⟨X, hX⟩ : ∃ X, X = s.col - 8 + (i : Int) := ⟨_, rfl⟩
          have HX : Hid (X = s.col - 8 + (i : Int)) := hX
          have HNum : Hid True := trivial
          by_cases q1 : X < 0
          · rw [← hX]
            have c1 : decide (X < 0) = true := decide_eq_true q1
            clear hX
            have HSkip : Hid (Di W b g lb tb A sk p N L s (p.sprTo N s st (i + 1)) w7) := by
              show Di W b g lb tb A sk p N L s (p.sprPt N s (p.sprTo N s st i) i) w7
              unfold Pic.sprPt
              rw [if_pos (Or.inl (by rw [← HX.out]; exact q1))]
              exact K2.out
            clear HNum HX
            go_wp2_with fail
            refine ⟨⟨i + 1, by omega, ?_, HSkip⟩, ?_⟩
            · first | rfl | (simp; done)
            · simp [intOf]
              omega
          · have c1 : decide (X < 0) = false := decide_eq_false q1
            by_cases q2 : 160 ≤ X
            · rw [← hX]
              have c2 : decide (160 ≤ X) = true := decide_eq_true q2
              clear hX
              have HSkip : Hid (Di W b g lb tb A sk p N L s (p.sprTo N s st (i + 1)) w7) := by
                show Di W b g lb tb A sk p N L s (p.sprPt N s (p.sprTo N s st i) i) w7
                unfold Pic.sprPt
                rw [if_pos (Or.inr (Or.inl (by rw [← HX.out]; exact q2)))]
                exact K2.out
              clear HNum HX
              go_wp2_with fail
              refine ⟨⟨i + 1, by omega, ?_, HSkip⟩, ?_⟩
              · first | rfl | (simp; done)
              · simp [intOf]
                omega
            · have c2 : decide (160 ≤ X) = false := decide_eq_false q2
              by_cases q3 : MM = 0
              · rw [← hX]
                have c3 : (MM == 0) = true := beq_iff_eq.2 q3
                clear hX
                have HSkip : Hid (Di W b g lb tb A sk p N L s (p.sprTo N s st (i + 1)) w7) := by
                  show Di W b g lb tb A sk p N L s (p.sprPt N s (p.sprTo N s st i) i) w7
                  unfold Pic.sprPt
                  rw [if_pos (Or.inr (Or.inr (Or.inl (by rw [HM2.out]; exact q3))))]
                  exact K2.out
                clear HNum HX
                go_wp2_with fail
                refine ⟨⟨i + 1, by omega, ?_, HSkip⟩, ?_⟩
                · first | rfl | (simp; done)
                · simp [intOf]
                  omega
              · have c3 : (MM == 0) = false := beq_eq_false_iff_ne.2 q3
                obtain ⟨x, rfl⟩ := Int.eq_ofNat_of_zero_le (show 0 ≤ X by omega)
                have x1 : x < 160 := by omega
                have x2 : (x : Int) < 160 := by omega
                have kT := K2.out.dw.bl.cell x x1
                have fT := K2.out.dw.bl.fz x
                rw [← hX]
                clear hX
                cases q4 : (p.sprTo N s st i).T x
                · rw [q4] at kT
                  have K3 : Hid _ := K2.out.setT x x1
                  have kf : (w7.setCell ⟨tb, x, none⟩ (.bool true)).cell? ⟨sk, 3, none⟩ = some (.int .u8 s.flg) := K3.out.cell 3 (by decide)
                  have kN := K3.out.dw.nm.cell x x1
                  have HRg : Hid _ := K3.out.range
                  have HCond : Hid (¬ ((x : Int) < 0 ∨ 160 ≤ (x : Int) ∨ MM = 0 ∨ (p.sprTo N s st i).T (x : Int).toNat = true)) := fun h => by
                    rcases h with h | h | h | h
                    · omega
                    · omega
                    · exact q3 h
                    · rw [Int.toNat_natCast, q4] at h; cases h
                  clear K2
                  by_cases f1 : bits .and .u8 s.flg 128 = 0
                  · have g1 : (bits .and .u8 s.flg 128 == 0) = true := beq_iff_eq.2 f1
                    have HDraw : Hid (bits .and .u8 s.flg 128 = 0 ∨ N x = 0) := Or.inl f1
                    clear f1
                    have HC0 : Hid (∀ w', Up (w7.setCell ⟨tb, x, none⟩ (.bool true)) w' → Calls Try.prog 87 #[.pointer (some ⟨b, 0, none⟩), .agg #[.int .u8 s.row, .int .u8 s.col, .int .u8 s.tile, .int .u8 s.flg]] w' fun e w'' => e = .returned (.int .u8 (p.sprC s)) ∧ Up w' w'') := fun w' u => coloursOf_any (p := p.setLine A (p.sprTo N s st i).D 160) s w' (K3.out.more u).dw.px
                    have HCb : 0 ≤ p.sprC s ∧ p.sprC s ≤ 255 := by unfold Pic.sprC; split; exact HI.out.rg 8; exact HI.out.rg 9
                    have HCl : Hid (∀ w, Calls Try.prog 73 #[.int .u8 (p.sprC s), .int .u8 MM] w fun e w' => e = .returned (.int .u8 (colourI (p.sprC s) MM)) ∧ w' = w) := fun w => colour_any _ _ nb.1 nb.2 HCb.1 HCb.2 w
                    have HEq : Hid (∀ w', Di W b g lb tb A sk p N L s ⟨fun k => if k = x then true else (p.sprTo N s st i).T k, fun k => if k = x then colourI (p.sprC s) MM else (p.sprTo N s st i).D k⟩ w' → Di W b g lb tb A sk p N L s (p.sprTo N s st (i + 1)) w') := fun w' h => by
                      show Di W b g lb tb A sk p N L s (p.sprPt N s (p.sprTo N s st i) i) _
                      unfold Pic.sprPt
                      rw [HM2.out, ← HX.out, if_neg HCond.out, Int.toNat_natCast]
                      rw [if_pos HDraw.out]
                      exact h
                    generalize colourI (p.sprC s) MM = CC at *
                    generalize p.sprC s = SC at *
                    go_wp2_with (refine wpList_load_mid rfl 100 _ rfl sk 0 rfl [.int .u8 s.row, .int .u8 s.col, .int .u8 s.tile, .int .u8 s.flg] _ HRg.out Try.underlying100 rfl (by kernel_rfl) ?_)
                    refine (HC0.out _ (Up.refl _)).mono ?_
                    rintro e w9 ⟨rfl, u9⟩
                    have K4 : Hid _ := K3.out.more u9
                    have hp9 := K4.out.dw.px.here (8367 + A + x) (by omega)
                    have fp9 := K4.out.dw.px.fz (8367 + A + x)
                    obtain ⟨old, kp9⟩ := Option.isSome_iff_exists.1 hp9
                    have HDone : Hid (Di W b g lb tb A sk p N L s (p.sprTo N s st (i + 1)) (w9.setCell ⟨b, 8367 + A + x, none⟩ (.int .u8 CC))) := HEq.out _ (K4.out.setP x x1 hA CC)
                    clear u9 K3 K4 HC0 kT fT kf kN HRg hp9 HEq
                    go_wp2_with fail
                    refine (HCl.out _).mono ?_
                    rintro e w' ⟨rfl, hw'⟩
                    obtain rfl := hw'.symm
                    go_wp2_with fail
                    refine ⟨⟨i + 1, by omega, ?_, HDone⟩, ?_⟩
                    · first | rfl | (simp; done)
                    · simp [intOf]
                      omega
                  · have g1 : (bits .and .u8 s.flg 128 == 0) = false := beq_eq_false_iff_ne.2 f1
                    by_cases f2 : N x = 0
                    · have g2 : (N x == 0) = true := beq_iff_eq.2 f2
                      have HDraw : Hid (bits .and .u8 s.flg 128 = 0 ∨ N x = 0) := Or.inr f2
                      clear f1 f2
                      have HC0 : Hid (∀ w', Up (w7.setCell ⟨tb, x, none⟩ (.bool true)) w' → Calls Try.prog 87 #[.pointer (some ⟨b, 0, none⟩), .agg #[.int .u8 s.row, .int .u8 s.col, .int .u8 s.tile, .int .u8 s.flg]] w' fun e w'' => e = .returned (.int .u8 (p.sprC s)) ∧ Up w' w'') := fun w' u => coloursOf_any (p := p.setLine A (p.sprTo N s st i).D 160) s w' (K3.out.more u).dw.px
                      have HCb : 0 ≤ p.sprC s ∧ p.sprC s ≤ 255 := by unfold Pic.sprC; split; exact HI.out.rg 8; exact HI.out.rg 9
                      have HCl : Hid (∀ w, Calls Try.prog 73 #[.int .u8 (p.sprC s), .int .u8 MM] w fun e w' => e = .returned (.int .u8 (colourI (p.sprC s) MM)) ∧ w' = w) := fun w => colour_any _ _ nb.1 nb.2 HCb.1 HCb.2 w
                      have HEq : Hid (∀ w', Di W b g lb tb A sk p N L s ⟨fun k => if k = x then true else (p.sprTo N s st i).T k, fun k => if k = x then colourI (p.sprC s) MM else (p.sprTo N s st i).D k⟩ w' → Di W b g lb tb A sk p N L s (p.sprTo N s st (i + 1)) w') := fun w' h => by
                        show Di W b g lb tb A sk p N L s (p.sprPt N s (p.sprTo N s st i) i) _
                        unfold Pic.sprPt
                        rw [HM2.out, ← HX.out, if_neg HCond.out, Int.toNat_natCast]
                        rw [if_pos HDraw.out]
                        exact h
                      generalize colourI (p.sprC s) MM = CC at *
                      generalize p.sprC s = SC at *
                      go_wp2_with (refine wpList_load_mid rfl 100 _ rfl sk 0 rfl [.int .u8 s.row, .int .u8 s.col, .int .u8 s.tile, .int .u8 s.flg] _ HRg.out Try.underlying100 rfl (by kernel_rfl) ?_)
                      refine (HC0.out _ (Up.refl _)).mono ?_
                      rintro e w9 ⟨rfl, u9⟩
                      have K4 : Hid _ := K3.out.more u9
                      have hp9 := K4.out.dw.px.here (8367 + A + x) (by omega)
                      have fp9 := K4.out.dw.px.fz (8367 + A + x)
                      obtain ⟨old, kp9⟩ := Option.isSome_iff_exists.1 hp9
                      have HDone : Hid (Di W b g lb tb A sk p N L s (p.sprTo N s st (i + 1)) (w9.setCell ⟨b, 8367 + A + x, none⟩ (.int .u8 CC))) := HEq.out _ (K4.out.setP x x1 hA CC)
                      clear u9 K3 K4 HC0 kT fT kf kN HRg hp9 HEq
                      go_wp2_with fail
                      refine (HCl.out _).mono ?_
                      rintro e w' ⟨rfl, hw'⟩
                      obtain rfl := hw'.symm
                      go_wp2_with fail
                      refine ⟨⟨i + 1, by omega, ?_, HDone⟩, ?_⟩
                      · first | rfl | (simp; done)
                      · simp [intOf]
                        omega
                    · have g2 : (N x == 0) = false := beq_eq_false_iff_ne.2 f2
                      have HDone : Hid (Di W b g lb tb A sk p N L s (p.sprTo N s st (i + 1)) (w7.setCell ⟨tb, x, none⟩ (.bool true))) := by
                        show Di W b g lb tb A sk p N L s (p.sprPt N s (p.sprTo N s st i) i) _
                        unfold Pic.sprPt
                        rw [HM2.out, ← HX.out, if_neg HCond.out, Int.toNat_natCast, if_neg (fun h => h.elim f1 f2)]
                        exact K3.out
                      clear f1 f2 K3
                      go_wp2_with fail
                      refine ⟨⟨i + 1, by omega, ?_, HDone⟩, ?_⟩
                      · first | rfl | (simp; done)
                      · simp [intOf]
                        omega
                · rw [q4] at kT
                  have HSkip : Hid (Di W b g lb tb A sk p N L s (p.sprTo N s st (i + 1)) w7) := by
                    show Di W b g lb tb A sk p N L s (p.sprPt N s (p.sprTo N s st i) i) w7
                    unfold Pic.sprPt
                    rw [if_pos (Or.inr (Or.inr (Or.inr (by rw [← HX.out]; exact q4))))]
                    exact K2.out
                  clear HNum HX
                  go_wp2_with fail
                  refine ⟨⟨i + 1, by omega, ?_, HSkip⟩, ?_⟩
                  · first | rfl | (simp; done)
                  · simp [intOf]
                    omega
        · have e8 : decide ((i : Int) < 8) = false := decide_eq_false (by omega)
          have hi8 : i = 8 := by omega
          have K1 : Hid (Dw W b g lb tb A p N L (p.sprTo N s st 8) wr) := by show Dw _ _ _ _ _ _ _ _ _ _ _; rw [← hi8]; exact K0.out.dw
          have HE2 : Hid (p.sprAll N L st0 = p.sprAll N (L.drop (m + 1)) (p.sprTo N s st 8)) := by show _ = _; rw [HE.out, HDr.out]; rfl
          clear K0
          go_wp2_with fail
          refine ⟨⟨m + 1, p.sprTo N s st 8, by omega, ?_, HE2, K1⟩, ?_⟩
          · first | rfl | (simp; done)
          · simp [intOf]
            omega
    · have d1 : decide ((m : Int) < (L.length : Int)) = false := decide_eq_false (by omega)
      have HE2 : Hid (p.sprAll N L st0 = st) := by
        show _ = _
        rw [HE.out, List.drop_eq_nil_of_le (by omega)]
        rfl
      go_wp2_with fail
      go_end0
      exact ⟨rfl, by rw [HST.out, HE2.out]; exact M0.out.px, M0.out.fr⟩
end Go.Proofs.Ytmjfccdhjhkocaa
