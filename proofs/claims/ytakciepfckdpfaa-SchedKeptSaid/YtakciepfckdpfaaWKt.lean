/- Proved: the walk of SchedKept. -/
import Derived.Test.YtakciepfckdpfaaScO
namespace Go.Proofs.Ytakciepfckdpfaa
open Go.RowKit
set_option linter.unusedVariables false
set_option linter.unusedSimpArgs false
variable {W : World}
theorem Kp.begun {sb k : Nat} {w : World} (h : Sx W (fun b => b < W.heap.size) sb ⟨allR 0, offs k⟩ w) : Kp W sb k [] (.slice none 0 0) w :=
  ⟨⟨_, h, ⟨rfl, Or.inl ⟨rfl, rfl⟩⟩, fun g hg => by cases hg⟩, List.nodup_nil⟩
theorem Kp.round {sb k : Nat} {ids : List Int} {v : Value} {w : World} (h : Kp W sb k ids v w) (hk : 0 < k) : Calls Try.prog 14 #[.pointer (some ⟨sb, 0, none⟩)] w fun e w1 => ∃ a n c, e = .returned (.slice a n c) ∧ ∀ w2, w2 = w1 → Calls Try.prog 11 #[.pointer (some ⟨sb, 0, none⟩), .int .i64 0] w2 fun e w3 => (∃ z, e = .returned (.tuple #[.int .i64 z, .int .i64 134])) ∧ Up W w3 ∧ Calls Try.prog 18 #[.slice a n c, v] w3 fun e w' => e = .returned (.bool true) ∧ Up w3 w' := by
  obtain ⟨K, h1, h2, h3⟩ := h.at'
  refine (h1.round).mono fun e w1 ⟨v1, q1, q2, q3⟩ => ?_
  rw [unr_ids] at q2
  obtain ⟨va, vn, vc, rfl⟩ := own_slice3 q2.own
  refine ⟨va, vn, vc, q1, fun w2 e2 => ?_⟩
  subst e2
  have hX : Sx W (fun b => K b ∨ (w.heap.size ≤ b ∧ b < w2.heap.size)) sb ⟨unr ids, offs k⟩ w2 := h1.let' q2.up (fun b hb => hb) (fun b hb => Or.inl hb)
  refine (hX.begin (s := 0)).mono fun e w3 ⟨r1, r2, r3⟩ => ?_
  rw [kept_none hk] at r1
  refine ⟨⟨_, r1⟩, r2.up, ?_⟩
  have f : ∀ g, g < w2.heap.size → (K g ∨ (w.heap.size ≤ g ∧ g < w2.heap.size)) → w3.heap[g]? = w2.heap[g]? := fun g hg hk => r3.block g hg hk
  refine same_yes (l := ids) (Ln.of (base := w.heap.size) (ownsRow_block q2.own (fun g hg => ?_))) (Ln.of (base := 0) (ownsRow_block (ownsRow_up h2 q2.up) (fun g hg => ?_)))
  · have := q2.own.lt g hg
    exact f g this.2 (Or.inr ⟨this.1, this.2⟩)
  · exact f g (own_lt (ownsRow_up h2 q2.up) hg) (Or.inl (h3 g hg).1)
set_option maxRecDepth 100000 in
set_option maxHeartbeats 1000000 in
theorem kept_walk {a0 : Int} {aa : Option Addr} {ab ao len cap : Nat} {f : Nat → Int} (h0 : I64 a0) (D : Ints W aa ab ao len cap f) :
    Calls Try.prog 6 #[.int .i64 a0, .slice aa len cap] W fun e w' => e = .returned (.bool true) ∧ Up W w' := by
  have l1 := D.lc
  have l2 : cap ≤ 9223372036854775807 := by have := D.cm; unfold maxLen at this; omega
  obtain ⟨k0, hk0, HP8⟩ := pick_nat a0 8 h0 (by decide) (by decide)
  have HB : Hid (Calls Try.prog 8 #[] W fun e w' => e = .returned (.bool true) ∧ Up W w') := begun_any W
  have H8 : Hid (∀ w, Calls Try.prog 9 #[.int .i64 a0, .int .i64 8] w fun e w' => e = .returned (.int .i64 (k0 : Int)) ∧ w' = w) := HP8
  obtain ⟨k, hk⟩ : ∃ k, k = 1 + k0 := ⟨_, rfl⟩
  have ek : (1 : Int) + (k0 : Int) = (k : Int) := by omega
  have HM : Hid (∀ w, Calls Try.prog 10 #[.int .i64 (k : Int), .int .i64 0] w fun e w' => ∃ sb, e = .returned (.pointer (some ⟨sb, 0, none⟩)) ∧ Kp w sb k [] (.slice none 0 0) w') := fun w => (made_any (n := 0) w (by omega) (by omega) (by omega)).mono fun e w' ⟨sb, q1, q2⟩ => ⟨sb, q1, Kp.begun q2⟩
  have HI : Hid (∀ w i, Up W w → i < len → aa = some ⟨ab, ao, none⟩ ∧ w.cell? ⟨ab, ao + i, none⟩ = some (.int .i64 (f i)) ∧ ∃ s : Nat, s < 100 ∧ ∀ w, Calls Try.prog 9 #[.int .i64 (f i), .int .i64 100] w fun e w' => e = .returned (.int .i64 (s : Int)) ∧ w' = w) := fun w i u hi => ⟨D.ad (by omega), cell_up u (D.cell i hi), pick_nat _ 100 (D.i64 i) (by omega) (by omega)⟩
  have hk1 : Hid (0 < k) := (by omega : 0 < k)
  have hie : Try.prog.info? 3 = some Try.t3 := by kernel_rfl
  have hk8 : k ≤ 8 := by omega
  clear hk D hk0 HP8 h0
  go_enter Try.func6, Try.ntmps6
  go_wp2_with fail
  refine Calls.mono HB.out ?_
  rintro e w1 ⟨rfl, u1⟩
  have HU1 : Hid (Up W w1) := u1
  clear u1 HB
  go_wp2_with fail
  refine (H8.out _).mono ?_
  rintro e w' ⟨rfl, hw⟩
  obtain rfl := hw.symm
  clear hw
  go_wp2_with fail
  refine (HM.out _).mono ?_
  rintro e w2 ⟨sb, rfl, h⟩
  have HS : Hid (∃ va vc, (Value.slice none 0 0) = .slice va ([] : List Int).length vc ∧ Kp w1 sb k [] (.slice va ([] : List Int).length vc) w2) := ⟨_, _, rfl, h⟩
  clear h HM H8
  go_wp2_with fail
  go_loopw [7, 8, 9, 10, 11, 12, 13, 14, 15, 16] (fun V I _ _ _ _ _ _ _ _ wr => ∃ i : Nat, i ≤ len ∧ I = .int .i64 (i : Int) ∧ ∃ ids : List Int, Hid (∃ va vc, V = .slice va ids.length vc ∧ Kp w1 sb k ids (.slice va ids.length vc) wr)) (fun _ I _ _ _ _ _ _ _ _ _ => len - (intOf I).toNat)
  case atStart => exact ⟨0, by omega, rfl, [], HS⟩
  case round =>
    clear HS
    obtain ⟨i, hi, rfl, ids, HS⟩ := hrel
    obtain ⟨va, vc, hv, hKp⟩ := HS.out
    subst hv
    have HK : Hid (Kp w1 sb k ids (.slice va ids.length vc) wr) := hKp
    have hi64 := hKp.len
    clear HS
    by_cases hlt : i < len
    · have d1 : (i : Int) < (len : Int) := by omega
      obtain ⟨rfl, kc, s, hs, hP⟩ := HI.out wr i (HU1.out.trans hKp.up) hlt
      have H1 : Hid _ := hP
      obtain ⟨xa, xb, xo, xc, hx1, c1, c2, hx2, hx3⟩ := hKp.ln.at'
      injection hx1 with e1 _ e2
      subst e1
      subst e2
      have HA : Hid (0 < ids.length → va = some ⟨xb, xo, none⟩) := hx2
      have HX : Hid (∀ j x, ids[j]? = some x → wr.cell? ⟨xb, xo + j, none⟩ = some (.int .i64 x)) := hx3
      have HL : Hid (ids.length = ids.length) := rfl
      clear hP hKp HI hx2 hx3
      obtain ⟨n, hn⟩ : ∃ n, n = ids.length := ⟨_, rfl⟩
      have HN : Hid (n = ids.length) := hn
      rw [← hn] at HK hi64 HA c1
      rw [← hn]
      clear hn
      go_wp2_with fail
      refine (H1.out _).mono ?_
      rintro e w' ⟨rfl, hw⟩
      obtain rfl := hw.symm
      clear hw
      go_wp2_with fail
      obtain ⟨wq, hwq⟩ : ∃ wq, wq = wr := ⟨_, rfl⟩
      subst hwq
      go_loop [10, 11] (fun AT J => ∃ j : Nat, j ≤ n ∧ J = .int .i64 (j : Int) ∧ ((AT = .int .i64 (-1) ∧ Hid (∀ a x, a < j → ids[a]? = some x → x ≠ (s : Int))) ∨ ∃ a : Nat, AT = .int .i64 (a : Int) ∧ a < j ∧ Hid (ids[a]? = some (s : Int)))) (fun _ J => n - (intOf J).toNat)
      case atStart => exact ⟨0, by omega, rfl, Or.inl ⟨rfl, fun a x ha => absurd ha (by omega)⟩⟩
      case round =>
        obtain ⟨j, hj, rfl, hat⟩ := hrel
        by_cases hjl : j < n
        · have d2 : (j : Int) < (n : Int) := by omega
          obtain rfl := HA.out (by omega)
          obtain ⟨x, hx⟩ : ∃ x, ids[j]? = some x := ⟨_, List.getElem?_eq_getElem (by rw [← HN.out]; exact hjl)⟩
          have kx := HX.out j x hx
          have HXj : Hid (ids[j]? = some x) := hx
          clear hx
          by_cases hxe : x = (s : Int)
          · have b1 : (x == (s : Int)) = true := by simp [hxe]
            have HXs : Hid (ids[j]? = some (s : Int)) := by rw [← hxe]; exact HXj.out
            clear hxe HXj
            rcases hat with ⟨rfl, HO⟩ | ⟨a, rfl, ha, HO⟩
            · go_wp2_with fail
              refine ⟨⟨j + 1, by omega, by first | rfl | (simp; done), Or.inr ⟨j, rfl, by omega, HXs⟩⟩, ?_⟩
              simp [intOf]
              omega
            · go_wp2_with fail
              refine ⟨⟨j + 1, by omega, by first | rfl | (simp; done), Or.inr ⟨j, rfl, by omega, HXs⟩⟩, ?_⟩
              simp [intOf]
              omega
          · have b1 : (x == (s : Int)) = false := by simpa using hxe
            have HXn : Hid (x ≠ (s : Int)) := hxe
            clear hxe
            rcases hat with ⟨rfl, HO⟩ | ⟨a, rfl, ha, HO⟩
            · go_wp2_with fail
              refine ⟨⟨j + 1, by omega, by first | rfl | (simp; done), Or.inl ⟨rfl, fun a y ha hy => ?_⟩⟩, ?_⟩
              · by_cases e : a = j
                · subst e
                  rw [HXj.out] at hy
                  injection hy with hy
                  rw [← hy]
                  exact HXn.out
                · exact HO.out a y (by omega) hy
              · simp [intOf]
                omega
            · go_wp2_with fail
              refine ⟨⟨j + 1, by omega, by first | rfl | (simp; done), Or.inr ⟨a, rfl, by omega, HO⟩⟩, ?_⟩
              simp [intOf]
              omega
        · have d2 : ¬ (j : Int) < (n : Int) := by omega
          obtain rfl : n = j := by omega
          rcases hat with ⟨rfl, HO⟩ | ⟨a, rfl, ha, HO⟩
          · skip
            have hno : (s : Int) ∉ ids := fun hm => by
              obtain ⟨a, ha, e⟩ := List.mem_iff_getElem.1 hm
              exact HO.out a _ (by rw [HN.out]; exact ha) (List.getElem?_eq_getElem ha) e
            have hC := (HN.out ▸ HK.out : Kp w1 sb k ids (.slice va ids.length vc) wq).out' (id := (s : Int)) (by omega) (by omega) hno
            rw [← HN.out] at hC
            have HC : Hid _ := hC
            clear hC hno HO HX HK
            go_wp2_with fail
            refine Calls.mono HC.out ?_
            rintro e w3 ⟨rfl, h⟩
            have HC2 : Hid _ := h w3 rfl
            clear h HC
            go_wp2_with fail
            refine Calls.mono HC2.out ?_
            rintro e w4 ⟨hy, hz⟩
            clear HC2
            by_cases h64 : n < 64
            · have d3 : (n : Int) < 64 := by omega
              obtain ⟨rfl, ho, hG⟩ := hy h64
              have HO4 : Hid _ := ho
              have HG4 : Hid _ := hG
              clear hy hz ho hG
              go_wp2_with (at_builtin; refine wpList_append_own_at2 _ rfl _ _ 35 35 rfl 0 3 Try.t3 (.int .i64 0) 1 8 Try.underlying35 Try.underlying35 hie rfl rfl rfl rfl (by decide) _ _ _ rfl (ownsRow_up HO4.out ((Up.refl w4).alloc _)) ⟨w4.heap.size, 0, none⟩ 1 1 [.int .i64 (s : Int)] rfl rfl (cell_one_new _ _ _) (by intro u hu; simp at hu; subst hu; rfl) (by unfold maxLen; omega) (by omega) (Nat.zero_le _) ?_; intro v' w5 ho hg hat; have H5 : Hid _ := HG4.out _ w5 v' ((Up.refl w4).alloc _) hg ho hat; obtain ⟨va', vc', rfl, _, _⟩ := own_slice ho; clear ho hg hat HG4 HO4)
              refine ⟨⟨i + 1, by omega, by first | rfl | (simp; done), ids ++ [(s : Int)], va', vc', by rw [List.length_append, ← HN.out]; rfl, by rw [List.length_append, ← HN.out]; exact H5.out⟩, ?_⟩
              simp [intOf]
              omega
            · have d3 : ¬ (n : Int) < 64 := by omega
              obtain ⟨rfl, hk5⟩ := hz h64
              have H5 : Hid _ := hk5
              clear hy hz hk5
              go_wp2_with fail
              refine ⟨⟨i + 1, by omega, by first | rfl | (simp; done), ids, va, vc, by rw [← HN.out], by rw [← HN.out]; exact H5.out⟩, ?_⟩
              simp [intOf]
              omega
          · skip
            have hC := (HN.out ▸ HK.out : Kp w1 sb k ids (.slice va ids.length vc) wq).in' (id := (s : Int)) (by omega) (by omega) HO.out
            rw [← HN.out] at hC
            have HC : Hid _ := hC
            obtain rfl := HA.out (by omega)
            clear hC HX HK
            go_wp2_with fail
            refine Calls.mono HC.out ?_
            rintro e w3 ⟨rfl, h⟩
            have HC2 : Hid _ := h w3 rfl
            clear h HC
            go_wp2_with fail
            refine Calls.mono HC2.out ?_
            rintro e w4 ⟨rfl, hl4, u4, hG⟩
            have HX4 : Hid (∀ w, Up w4 w → ∀ j x, ids[j]? = some x → w.cell? ⟨xb, xo + j, none⟩ = some (.int .i64 x)) := by
              obtain ⟨aa', ab', ao', c', e1, _, _, e4, e5⟩ := hl4.at'
              injection e1 with e1 _ _
              have e6 := e4 (by rw [← HN.out]; omega)
              rw [← e1] at e6
              injection e6 with e6
              injection e6 with e6 e7
              subst e6 e7
              exact fun w u j x hx => cell_up u (e5 j x hx)
            have e8 : (ids.eraseIdx a).length = a + (n - (a + 1)) := by rw [List.length_eraseIdx_of_lt (by rw [← HN.out]; exact ha), ← HN.out]; omega
            have HE : Hid (∀ w5 w6 v1 v2, w4.grownBy w5 none → w5.ownsRow w4.heap.size 3 1 v1 a (nums (ids.take a)) → w5.grownBy w6 v1.ownBlock → w6.ownsRow w4.heap.size 3 1 v2 (a + (n - (a + 1))) (nums (ids.take a) ++ nums (ids.drop (a + 1))) → Kp w1 sb k (ids.eraseIdx a) v2 w6) := fun w5 w6 v1 v2 g5 o5 g6 o6 => by
              have u5 : Up w4 w5 := ⟨g5.os, g5.output, g5.size, fun b hb => g5.block b hb (by simp)⟩
              refine hG w6 v2 ⟨g6.os.trans u5.os, g6.output.trans u5.output, Nat.le_trans u5.size g6.size, fun b hb => (g6.block b (Nat.lt_of_lt_of_le hb u5.size) (fun e => ?_)).trans (u5.block b hb)⟩ ?_
              · have := (o5.lt b e.symm).1
                omega
              · rw [e8, List.eraseIdx_eq_take_drop_succ, nums_app]
                exact o6
            have hA2 : ∃ A : Addr, (if vc = a + 1 then some (⟨xb, xo, none⟩ : Addr) else some ⟨xb, xo + (a + 1), none⟩) = some A ∧ Hid (∀ w, Up w4 w → ∀ t u, (nums (ids.drop (a + 1)))[t]? = some u → w.cell? (A.add t) = some u) := by
              by_cases h : vc = a + 1
              · refine ⟨⟨xb, xo, none⟩, by rw [if_pos h], fun w uw t u hu => ?_⟩
                have h1 := (List.getElem?_eq_some_iff.1 hu).1
                rw [nums_len, List.length_drop, ← HN.out] at h1
                omega
              · refine ⟨⟨xb, xo + (a + 1), none⟩, by rw [if_neg h], fun w uw t u hu => ?_⟩
                rw [Addr.add_lit]
                unfold nums at hu
                rw [List.getElem?_map, List.getElem?_drop] at hu
                obtain ⟨x, hx, rfl⟩ := Option.map_eq_some_iff.1 hu
                rw [Nat.add_assoc]
                exact HX4.out w uw _ x hx
            obtain ⟨A, hA1, HA2⟩ := hA2
            have HT : Hid (∀ t u, (nums (ids.take a))[t]? = some u → w4.cell? ((⟨xb, xo, none⟩ : Addr).add t) = some u) := fun t u hu => by
              rw [Addr.add_lit]
              unfold nums at hu
              rw [List.getElem?_map, List.getElem?_take] at hu
              by_cases h : t < a
              · rw [if_pos h] at hu
                obtain ⟨x, hx, rfl⟩ := Option.map_eq_some_iff.1 hu
                exact HX4.out w4 (Up.refl w4) t x hx
              · rw [if_neg h] at hu
                cases hu
            have hl1 : Hid ((nums (ids.take a)).length = a * 1) := by show _ = _; rw [nums_len, List.length_take, ← HN.out]; omega
            have hl2 : Hid ((nums (ids.drop (a + 1))).length = (n - (a + 1)) * 1) := by show _ = _; rw [nums_len, List.length_drop, ← HN.out]; omega
            have HO1 : Hid (∀ u ∈ nums (ids.take a), u.oneCell' = true) := nums_one _
            have HO2 : Hid (∀ u ∈ nums (ids.drop (a + 1)), u.oneCell' = true) := nums_one _
            have HFin : Hid (∀ v w, Kp w1 sb k (ids.eraseIdx a) v w → Kp w1 sb k (ids.eraseIdx a) v w) := fun v w h => h
            have HE8 : Hid ((ids.eraseIdx a).length = a + (n - (a + 1))) := e8
            clear hl4 hG HC2 u4 HX4 e8
            generalize nums (ids.take a) = N1 at HE hl1 HO1 HT
            generalize nums (ids.drop (a + 1)) = N2 at HE hl2 HO2 HA2
            have d3 : (a : Int) ≤ (vc : Int) := by omega
            have d4 : (a : Int) + 1 ≤ (n : Int) := by omega
            have d5 : ((a : Int) + 1).toNat = a + 1 := by omega
            have d6 : (0 : Int) ≤ (a : Int) + 1 := by omega
            have d7 : (n : Int) ≤ (vc : Int) := by omega
            have d8 : IntKind.i64.wrap ((a : Int) + 1) = (a : Int) + 1 := by rw [IntKind.wrap_i64]; omega
            have d9 : a ≤ vc := by omega
            have d10 : (a : Int) + 1 ≤ (vc : Int) := by omega
            go_wp2_with (first | (at_builtin; refine wpList_append_own_at2 _ rfl _ _ 35 35 rfl w4.heap.size 3 Try.t3 (.int .i64 0) 1 8 Try.underlying35 Try.underlying35 hie rfl rfl rfl rfl (by decide) (.slice none 0 0) 0 [] rfl ⟨rfl, Or.inl ⟨rfl, rfl⟩⟩ ⟨xb, xo, none⟩ a vc N1 rfl hl1.out HT.out HO1.out (by unfold maxLen; omega) (by omega) (Nat.le_refl _) ?_; intro v1 w5 ho5 hg5 hat5; rw [Nat.zero_add, List.nil_append] at ho5; obtain ⟨va1, vc1, rfl, _, _⟩ := own_slice ho5; have HO5 : Hid _ := ho5; have HG5 : Hid (w4.grownBy w5 none) := hg5; clear ho5 hg5 hat5) | (at_builtin; refine wpList_append_own_at2 _ rfl _ _ 35 35 rfl w4.heap.size 3 Try.t3 (.int .i64 0) 1 8 Try.underlying35 Try.underlying35 hie rfl rfl rfl rfl (by decide) (.slice va1 a vc1) a N1 rfl HO5.out A (n - (a + 1)) (vc - (a + 1)) N2 (by simp [Act.eval, hA1]) hl2.out (HA2.out w5 ⟨HG5.out.os, HG5.out.output, HG5.out.size, fun b hb => HG5.out.block b hb (by simp)⟩) HO2.out (by unfold maxLen; omega) (by omega) HG5.out.size ?_; intro v2 w6 ho6 hg6 hat6; have H6 : Hid _ := HE.out w5 w6 _ v2 HG5.out HO5.out hg6 ho6; obtain ⟨va2, vc2, rfl, _, _⟩ := own_slice ho6; clear ho6 hg6 hat6))
            refine ⟨⟨i + 1, by omega, by first | rfl | (simp; done), ids.eraseIdx a, va2, vc2, by rw [HE8.out], by rw [HE8.out]; exact H6.out⟩, ?_⟩
            simp [intOf]
            omega
    · have d1 : ¬ (i : Int) < (len : Int) := by omega
      have HF : Hid _ := HK.out.round hk1.out
      have HU : Hid (Up W wr) := HU1.out.trans hKp.up
      clear HK hKp HI
      generalize ids.length = n at *
      go_wp2_with fail
      refine Calls.mono HF.out ?_
      rintro e w3 ⟨ra, rn, rc, rfl, h⟩
      have HF2 : Hid _ := h w3 rfl
      clear h HF
      go_wp2_with fail
      refine Calls.mono HF2.out ?_
      rintro e w4 ⟨⟨z, rfl⟩, u4, h⟩
      have HU4 : Hid (Up W w4) := HU1.out.trans u4
      have HF3 : Hid _ := h
      clear h u4 HF2
      go_wp2_with fail
      refine Calls.mono HF3.out ?_
      rintro e w5 ⟨rfl, u5⟩
      have HU5 : Hid (Up W w5) := HU4.out.trans u5
      clear u5 HF3
      go_wp2_with fail
      go_ret
      exact ⟨by first | rfl | (simp; done), HU5.out⟩
end Go.Proofs.Ytakciepfckdpfaa
