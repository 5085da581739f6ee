/- BlockAll: the walk. -/
import Derived.Test.YtplhhghipmffcaaBkL
namespace Go.Proofs.Ytplhhghipmffcaa
open Go.RowKit
set_option linter.unusedVariables false
set_option linter.unusedSimpArgs false
variable {w w' W : World} {g n m o : Nat} {f f' : Nat → Int} {K K' : Nat → Prop} {sb : Nat} {A : Ad} {S : Sto}
set_option maxRecDepth 100000 in
set_option maxHeartbeats 4000000 in
theorem all_walk {x : Int} {a1 a2 : Option Addr} {b1 o1 sl c1 b2 o2 pl c2 : Nat} {hs hp : Nat → Int} (hx : I64 x) (D1 : Ints W a1 b1 o1 sl c1 hs) (D2 : Ints W a2 b2 o2 pl c2 hp) :
    Calls Try.prog 5 #[.int .i64 x, .slice a1 sl c1, .slice a2 pl c2] W fun e w' => e = .returned (.bool true) ∧ Up W w' := by
  have HPk : Hid (∀ w, Calls Try.prog 13 #[.int .i64 x, .int .i64 5] w fun e w' => e = .returned (.int .i64 (pickI x 5)) ∧ w' = w) := fun w => pick_any x 5 w hx (by decide) (by decide)
  have p1 := pickI_lo x 5 (by decide)
  have p2 := pickI_hi x 5 (by decide)
  have HF1 : Hid (∀ w, w = W → Calls Try.prog 17 #[.slice a1 sl c1, .int .i64 6] w fun e w' => e = .returned (.slice a1 (min sl 6) c1) ∧ w' = w) := fun w hw => by subst hw; exact few_any (k := 6) D1 (by decide)
  have HF2 : Hid (∀ w, w = W → Calls Try.prog 17 #[.slice a2 pl c2, .int .i64 6] w fun e w' => e = .returned (.slice a2 (min pl 6) c2) ∧ w' = w) := fun w hw => by subst hw; exact few_any (k := 6) D2 (by decide)
  obtain ⟨sn, hsn⟩ : ∃ sn, sn = min sl 6 := ⟨_, rfl⟩
  obtain ⟨pn, hpn⟩ : ∃ pn, pn = min pl 6 := ⟨_, rfl⟩
  have D3 := D1.less (k := sn) (by omega)
  have D4 := D2.less (k := pn) (by omega)
  have hs6 : sn ≤ 6 := by omega
  have hp6 : pn ≤ 6 := by omega
  have l4 : c2 ≤ 9223372036854775807 := by have := D2.cm; unfold maxLen at this; omega
  have l3 := D4.lc
  rw [← hsn] at HF1
  rw [← hpn] at HF2
  clear D1 D2 hsn hpn hx
  generalize pickI x 5 = MI at *
  obtain ⟨q, rfl⟩ := Int.eq_ofNat_of_zero_le p1
  obtain ⟨n, hn⟩ : ∃ n, n = 1 + q := ⟨_, rfl⟩
  have hn1 : 1 ≤ n := by omega
  have hn2 : n ≤ 5 := by omega
  have en : (1 : Int) + (q : Int) = (n : Int) := by omega
  have HM1 : Hid (∀ w, w = W → Calls Try.prog 9 #[.int .i64 (n : Int), .slice a1 sn c1, .slice a2 pn c2] w fun e w' => ∃ sb, e = .returned (.tuple #[.pointer (some ⟨sb, 0, none⟩), .bool true]) ∧ Sx W (fun b => b < W.heap.size) sb (Sto.made n sn hs pn hp) w') := fun w hw => by
    subst hw
    exact made_any hn1 (by omega) D3 D4 (by omega) (by omega)
  have HM2 : Hid (∀ w, Up W w → Calls Try.prog 9 #[.int .i64 (n : Int), .slice a1 sn c1, .slice none 0 0] w fun e w' => ∃ sb, e = .returned (.tuple #[.pointer (some ⟨sb, 0, none⟩), .bool true]) ∧ Sx w (fun b => b < w.heap.size) sb (Sto.made n sn hs 0 (fun _ => 0)) w') := fun w u =>
    made_any hn1 (by omega) (D3.upI u) (Ints.none w _ (fun _ => i64zero)) (by omega) (by decide)
  have HFi : Hid (∀ w, Calls Try.prog 11 #[.int .i64 1, .int .i64 0] w (Cop w 512 (fillF 1))) := fun w => filled_any (m := 512) ⟨by decide, by decide⟩ (by decide) (by decide)
  have hie : Try.prog.info? 3 = some Try.t3 := by kernel_rfl
  clear D3 D4 hn
  go_enter Try.func5, Try.ntmps5
  go_wp2_with fail
  refine (HPk.out _).mono ?_
  rintro e w' ⟨rfl, hw'⟩
  obtain rfl := hw'.symm
  clear HPk
  go_wp2_with fail
  refine (HF1.out _ rfl).mono ?_
  rintro e w' ⟨rfl, hw'⟩
  obtain rfl := hw'.symm
  clear HF1
  go_wp2_with fail
  refine (HF2.out _ rfl).mono ?_
  rintro e w' ⟨rfl, hw'⟩
  obtain rfl := hw'.symm
  clear HF2
  go_wp2_with fail
  refine (HM1.out _ rfl).mono ?_
  rintro e w1 ⟨sb, rfl, h1⟩
  have H1 : Hid (Sx W (fun b => b < W.heap.size) sb (Sto.made n sn hs pn hp) w1) := h1
  clear h1 HM1
  go_wp2_with fail
  refine (HM2.out _ H1.out.up).mono ?_
  rintro e w2 ⟨tb, rfl, h2⟩
  have H2 : Hid (Sx W (fun b => b < W.heap.size) sb (Sto.made n sn hs pn hp) w2 ∧ Sx w1 (fun b => b < w1.heap.size) tb (Sto.made n sn hs 0 (fun _ => 0)) w2) := ⟨H1.out.more h2.up, h2⟩
  clear h2 HM2 H1
  have H0 : Hid (Tw w2 512 (-1026) 0 (.slice none 0 0) (.slice none 0 0) w2) := ⟨⟨rfl, Or.inl ⟨rfl, rfl⟩⟩, ⟨rfl, Or.inl ⟨rfl, rfl⟩⟩, Up.refl w2, fun b h => by cases h⟩
  go_wp2_with fail
  go_loopw [12, 13, 14] (fun V1 V2 I wr => ∃ i : Nat, i ≤ pn ∧ I = .int .i64 i ∧ Hid (Tw w2 512 (-1026) i V1 V2 wr)) (fun _ _ I _ => pn - (intOf I).toNat)
  case atStart => exact ⟨0, by omega, rfl, H0⟩
  case round =>
    clear H0
    obtain ⟨i, hi, rfl, M0⟩ := hrel
    by_cases hlt : i < pn
    · have e1 : (i : Int) < (pn : Int) := by omega
      obtain ⟨va, vn, vc, rfl⟩ := own_slice3 M0.out.o1
      obtain ⟨ua, un, uc, rfl⟩ := own_slice3 M0.out.o2
      have HO1 : Hid ((wr.alloc (Obj.cells #[.int .i64 512] 3)).ownsRow w2.heap.size 3 1 (.slice va vn vc) i (List.replicate i (.int .i64 512))) := M0.out.o1.alloc _
      have HN1 : Hid (∀ j u, [Value.int .i64 512][j]? = some u → (wr.alloc (Obj.cells #[.int .i64 512] 3)).cell? ((⟨wr.heap.size, 0, none⟩ : Addr).add j) = some u) := fun j u hu => by
        rw [Addr.add_lit, Nat.zero_add, cell_of_row _ _ _ _ _ _ (heap_alloc_new wr _)]
        simpa using hu
      have HX1 : Hid (∀ u ∈ [Value.int .i64 512], u.oneCell' = true) := fun u hu => by simp at hu; subst hu; rfl
      have HX2 : Hid (∀ u ∈ [Value.int .i64 (-1026)], u.oneCell' = true) := fun u hu => by simp at hu; subst hu; rfl
      have HB1 : Hid (w2.heap.size ≤ (wr.alloc (Obj.cells #[.int .i64 512] 3)).heap.size) := Nat.le_trans M0.out.up.size ((Up.refl wr).alloc _).size
      have HT1 : Hid (∀ v' w', w'.ownsRow w2.heap.size 3 1 v' (i + 1) (List.replicate i (.int .i64 512) ++ [.int .i64 512]) → (wr.alloc (Obj.cells #[.int .i64 512] 3)).grownBy w' (Value.slice va vn vc).ownBlock → (v'.ownBlock = (Value.slice va vn vc).ownBlock ∨ v'.ownBlock = some (wr.alloc (Obj.cells #[.int .i64 512] 3)).heap.size) → w'.ownsRow w2.heap.size 3 1 v' (i + 1) (List.replicate (i + 1) (.int .i64 512)) ∧ w'.ownsRow w2.heap.size 3 1 (.slice ua un uc) i (List.replicate i (.int .i64 (-1026))) ∧ Up w2 w' ∧ (∀ b, v'.ownBlock = some b → (Value.slice ua un uc).ownBlock ≠ some b)) := fun v' w' h1 h2 h3 => by
        rw [rep_succ] at h1
        exact ⟨h1, Tw.left (x := 512) M0.out.o2 M0.out.up M0.out.ne (fun b hb => (own_ge M0.out.o1 hb).1) h2 h3⟩
      have HT2 : Hid (∀ v1 w3 v' w', (w3.ownsRow w2.heap.size 3 1 v1 (i + 1) (List.replicate (i + 1) (.int .i64 512)) ∧ w3.ownsRow w2.heap.size 3 1 (.slice ua un uc) i (List.replicate i (.int .i64 (-1026))) ∧ Up w2 w3 ∧ (∀ b, v1.ownBlock = some b → (Value.slice ua un uc).ownBlock ≠ some b)) → w'.ownsRow w2.heap.size 3 1 v' (i + 1) (List.replicate i (.int .i64 (-1026)) ++ [.int .i64 (-1026)]) → (w3.alloc (Obj.cells #[.int .i64 (-1026)] 3)).grownBy w' (Value.slice ua un uc).ownBlock → (v'.ownBlock = (Value.slice ua un uc).ownBlock ∨ v'.ownBlock = some (w3.alloc (Obj.cells #[.int .i64 (-1026)] 3)).heap.size) → Tw w2 512 (-1026) (i + 1) v1 v' w') := fun v1 w3 v' w' h0 h1 h2 h3 => by
        rw [rep_succ] at h1
        have := Tw.left (x := 512) h0.1 h0.2.2.1 (fun b hb hc => h0.2.2.2 b hc hb) (fun b hb => (own_ge h0.2.1 hb).1) h2 h3
        exact ⟨this.1, h1, this.2.1, fun b hb hc => this.2.2 b hc hb⟩
      have HN2 : Hid (∀ (w3 : World) j u, [Value.int .i64 (-1026)][j]? = some u → (w3.alloc (Obj.cells #[.int .i64 (-1026)] 3)).cell? ((⟨w3.heap.size, 0, none⟩ : Addr).add j) = some u) := fun w3 j u hu => by
        rw [Addr.add_lit, Nat.zero_add, cell_of_row _ _ _ _ _ _ (heap_alloc_new w3 _)]
        simpa using hu
      clear M0 H2
      go_wp2_with (first
        | (at_builtin; refine wpList_append_own_at2 _ rfl _ _ 31 31 rfl w2.heap.size 3 Try.t3 (.int .i64 0) 1 8 Try.underlying31 Try.underlying31 hie rfl rfl rfl rfl (by decide) (.slice va vn vc) i (List.replicate i (.int .i64 512)) rfl HO1.out ⟨wr.heap.size, 0, none⟩ 1 1 [.int .i64 512] rfl rfl HN1.out HX1.out (by unfold maxLen; omega) (by omega) HB1.out ?_
           intro v' w3 hown hgrow hat
           have T1 : Hid _ := HT1.out v' w3 hown hgrow hat
           obtain ⟨va', vn', vc', rfl⟩ := own_slice3 hown
           have HO2 : Hid ((w3.alloc (Obj.cells #[.int .i64 (-1026)] 3)).ownsRow w2.heap.size 3 1 (.slice ua un uc) i (List.replicate i (.int .i64 (-1026)))) := T1.out.2.1.alloc _
           have HB2 : Hid (w2.heap.size ≤ (w3.alloc (Obj.cells #[.int .i64 (-1026)] 3)).heap.size) := Nat.le_trans T1.out.2.2.1.size ((Up.refl w3).alloc _).size
           clear hown hgrow hat HO1 HN1 HX1 HB1 HT1)
        | (at_builtin; refine wpList_append_own_at2 _ rfl _ _ 31 31 rfl w2.heap.size 3 Try.t3 (.int .i64 0) 1 8 Try.underlying31 Try.underlying31 hie rfl rfl rfl rfl (by decide) (.slice ua un uc) i (List.replicate i (.int .i64 (-1026))) rfl HO2.out ⟨w3.heap.size, 0, none⟩ 1 1 [.int .i64 (-1026)] rfl rfl (HN2.out w3) HX2.out (by unfold maxLen; omega) (by omega) HB2.out ?_
           intro v'' w4 hown hgrow hat
           have T2 : Hid _ := HT2.out _ w3 v'' w4 T1.out hown hgrow hat
           obtain ⟨ua', un', uc', rfl⟩ := own_slice3 hown
           clear hown hgrow hat HO2 HN2 HX2 HB2 HT2 T1))
      refine ⟨⟨i + 1, by omega, by first | rfl | (simp; done), T2⟩, ?_⟩
      simp [intOf]
      omega
    · have e1 : ¬ (i : Int) < (pn : Int) := by omega
      obtain rfl : i = pn := by omega
      obtain ⟨a3, b3, c3, rfl, I1⟩ := own_ints M0.out.o1 ⟨by decide, by decide⟩
      obtain ⟨a4, b4, c4, rfl, I2⟩ := own_ints M0.out.o2 ⟨by decide, by decide⟩
      have HSn : Hid ((Sto.made n sn hs i hp).n = n ∧ (Sto.made n sn hs i hp).pend.length = i ∧ (Sto.made n sn hs i hp).left = -1 ∧ (Sto.made n sn hs 0 (fun _ => 0)).n = n) := ⟨Sto.made_n .., Sto.made_len .., Sto.made_left .., Sto.made_n ..⟩
      have HGd : Hid (Good (Sto.made n sn hs i hp)) := Good.made ..
      have HSf : Hid ((Sto.made n sn hs i hp).safe = (Sto.made n sn hs 0 (fun _ => 0)).now) := Sto.made_safe ..
      have H3 : Hid (Sx W (fun b => b < W.heap.size) sb (Sto.made n sn hs i hp) wr ∧ Sx w1 (fun b => b < w1.heap.size) tb (Sto.made n sn hs 0 (fun _ => 0)) wr ∧ Ints wr a3 b3 0 i c3 (fun _ => 512) ∧ Ints wr a4 b4 0 i c4 (fun _ => -1026)) := ⟨H2.out.1.more M0.out.up, H2.out.2.more M0.out.up, I1, I2⟩
      clear M0 H2 I1 I2
      generalize Sto.made n sn hs i hp = S at *
      generalize Sto.made n sn hs 0 (fun _ => 0) = T at *
      -- four lists, each by its own contract
      have HC1 : Hid (Calls Try.prog 14 #[.pointer (some ⟨sb, 0, none⟩), .slice a3 i c3] wr (Cop wr (512 * n) S.now)) := by
        have := H3.out.1.crash (by rw [HSn.out.2.1]; omega) H3.out.2.2.1
        rw [crash_whole S.safe S.pend.length (fun j hj => by
          have : pkN i (fun _ => 512) j = 512 := by unfold pkN; rw [if_pos (by have := HSn.out.2.1; omega)]; rfl
          rw [this]
          exact sp512), ← HGd.out, HSn.out.1] at this
        exact this
      have HC2 : Hid (∀ w, Up wr w → Calls Try.prog 14 #[.pointer (some ⟨sb, 0, none⟩), .slice a4 i c4] w (Cop w (512 * n) S.now)) := fun w u => by
        have := (H3.out.1.more u).crash (by rw [HSn.out.2.1]; omega) (H3.out.2.2.2.upI u)
        rw [crash_whole S.safe S.pend.length (fun j hj => by
          have : pkN i (fun _ => -1026) j = 1025 := by unfold pkN; rw [if_pos (by have := HSn.out.2.1; omega)]; rfl
          rw [this]
          exact sp1025), ← HGd.out, HSn.out.1] at this
        exact this
      have HC3 : Hid (∀ w, Up wr w → Calls Try.prog 14 #[.pointer (some ⟨sb, 0, none⟩), .slice none 0 0] w (Cop w (512 * n) T.now)) := fun w u => by
        have := (H3.out.1.more u).crash (by rw [HSn.out.2.1]; omega) (Ints.none w (fun _ => 0) (fun _ => i64zero))
        rw [crash_none S.safe S.pend.length (fun j hj => by
          have : pkN 0 (fun _ => 0) j = 0 := by unfold pkN; rw [if_neg (by omega)]
          rw [this]
          exact sp0), HSf.out, HSn.out.1] at this
        exact this
      have HI1 : Hid (∀ w, Up wr w → Calls Try.prog 18 #[.pointer (some ⟨sb, 0, none⟩)] w (Cop w (512 * n) S.now)) := fun w u => by
        have := (H3.out.1.more u).image
        rw [HSn.out.1] at this
        exact this
      have HI2 : Hid (∀ w, Up wr w → Calls Try.prog 18 #[.pointer (some ⟨tb, 0, none⟩)] w (Cop w (512 * n) T.now)) := fun w u => by
        have := (H3.out.2.1.more u).image
        rw [HSn.out.2.2.2] at this
        exact this
      have HSx : Hid (Sx W (fun b => b < W.heap.size) sb S wr) := H3.out.1
      clear H3
      go_wp2_with fail
      refine Calls.mono HC1.out ?_
      rintro e w3 ⟨g3, k3, rfl, q1, q2, q3, q4, q5⟩
      have L3 : Hid (wr.heap.size ≤ g3 ∧ By w3 g3 (512 * n) S.now ∧ 512 * n ≤ k3 ∧ k3 ≤ maxLen ∧ Up wr w3) := ⟨q1, q2, q3, q4, q5⟩
      clear q1 q2 q3 q4 q5 HC1
      go_wp2_with fail
      refine (HC2.out _ L3.out.2.2.2.2).mono ?_
      rintro e w4 ⟨g4, k4, rfl, q1, q2, q3, q4, q5⟩
      have L4 : Hid (w3.heap.size ≤ g4 ∧ By w4 g4 (512 * n) S.now ∧ 512 * n ≤ k4 ∧ k4 ≤ maxLen ∧ Up wr w4) := ⟨q1, q2, q3, q4, L3.out.2.2.2.2.trans q5⟩
      have U4 : Hid (Up w3 w4) := q5
      clear q1 q2 q3 q4 q5 HC2
      go_wp2_with fail
      refine (HC3.out _ L4.out.2.2.2.2).mono ?_
      rintro e w5 ⟨g5, k5, rfl, q1, q2, q3, q4, q5⟩
      have L5 : Hid (w4.heap.size ≤ g5 ∧ By w5 g5 (512 * n) T.now ∧ 512 * n ≤ k5 ∧ k5 ≤ maxLen ∧ Up wr w5) := ⟨q1, q2, q3, q4, L4.out.2.2.2.2.trans q5⟩
      have U5 : Hid (Up w4 w5) := q5
      clear q1 q2 q3 q4 q5 HC3
      go_wp2_with fail
      refine (HI1.out _ L5.out.2.2.2.2).mono ?_
      rintro e w6 ⟨g6, k6, rfl, q1, q2, q3, q4, q5⟩
      have L6 : Hid (w5.heap.size ≤ g6 ∧ By w6 g6 (512 * n) S.now ∧ 512 * n ≤ k6 ∧ k6 ≤ maxLen ∧ Up wr w6) := ⟨q1, q2, q3, q4, L5.out.2.2.2.2.trans q5⟩
      have U6 : Hid (Up w5 w6) := q5
      clear q1 q2 q3 q4 q5 HI1
      go_wp2_with fail
      refine (HI2.out _ L6.out.2.2.2.2).mono ?_
      rintro e w7 ⟨g7, k7, rfl, q1, q2, q3, q4, q5⟩
      have L7 : Hid (w6.heap.size ≤ g7 ∧ By w7 g7 (512 * n) T.now ∧ 512 * n ≤ k7 ∧ k7 ≤ maxLen ∧ Up wr w7) := ⟨q1, q2, q3, q4, L6.out.2.2.2.2.trans q5⟩
      have U7 : Hid (Up w6 w7) := q5
      clear q1 q2 q3 q4 q5 HI2
      -- all of them are let into K
      have HK : Hid (Sx W (fun b => b < W.heap.size ∨ (wr.heap.size ≤ b ∧ b < w7.heap.size)) sb S w7) := HSx.out.let' L7.out.2.2.2.2 (fun b hb => hb) (fun b hb => Or.inl hb)
      have HB7 : Hid (∀ w, FK (fun b => b < W.heap.size ∨ (wr.heap.size ≤ b ∧ b < w7.heap.size)) w7 w → Lb w (.slice (some ⟨g3, 0, none⟩) (512 * n) k3) (512 * n) S.now ∧ Lb w (.slice (some ⟨g4, 0, none⟩) (512 * n) k4) (512 * n) S.now ∧ Lb w (.slice (some ⟨g5, 0, none⟩) (512 * n) k5) (512 * n) T.now ∧ Lb w (.slice (some ⟨g6, 0, none⟩) (512 * n) k6) (512 * n) S.now ∧ Lb w (.slice (some ⟨g7, 0, none⟩) (512 * n) k7) (512 * n) T.now) := fun w fk => by
        have z4 := U4.out.size
        have z5 := U5.out.size
        have z6 := U6.out.size
        have z7 := U7.out.size
        have z3 := L3.out.2.2.2.2.size
        have m3 := L3.out.2.1.up (U4.out.trans (U5.out.trans (U6.out.trans U7.out)))
        have m4 := L4.out.2.1.up (U5.out.trans (U6.out.trans U7.out))
        have m5 := L5.out.2.1.up (U6.out.trans U7.out)
        have m6 := L6.out.2.1.up U7.out
        have m7 := L7.out.2.1
        have i3 := L3.out.1
        have i4 := L4.out.1
        have i5 := L5.out.1
        have i6 := L6.out.1
        have i7 := L7.out.1
        refine ⟨(m3.of_block (fk.block _ m3.lt (Or.inr ⟨i3, m3.lt⟩))).lb L3.out.2.2.1 L3.out.2.2.2.1, (m4.of_block (fk.block _ m4.lt (Or.inr ⟨by omega, m4.lt⟩))).lb L4.out.2.2.1 L4.out.2.2.2.1, (m5.of_block (fk.block _ m5.lt (Or.inr ⟨by omega, m5.lt⟩))).lb L5.out.2.2.1 L5.out.2.2.2.1, (m6.of_block (fk.block _ m6.lt (Or.inr ⟨by omega, m6.lt⟩))).lb L6.out.2.2.1 L6.out.2.2.2.1, (m7.of_block (fk.block _ m7.lt (Or.inr ⟨by omega, m7.lt⟩))).lb L7.out.2.2.1 L7.out.2.2.2.1⟩
      have HSy : Hid _ := HK.out.sync (by rw [HSn.out.2.1]; omega)
      clear HK L3 L4 L5 L6 L7 U4 U5 U6 U7 HSx
      go_wp2_with fail
      refine Calls.mono HSy.out ?_
      rintro e w8 ⟨rfl, h8, f8⟩
      have L8 := HB7.out w8 f8
      have HC8 : Hid (Calls Try.prog 14 #[.pointer (some ⟨sb, 0, none⟩), .slice none 0 0] w8 (Cop w8 (512 * n) S.now)) := by
        have := h8.crash (by show 0 ≤ _; decide) (Ints.none w8 (fun _ => 0) (fun _ => i64zero))
        have e0 : crashN (pkN 0 (fun _ => 0)) S.synced.pend S.synced.safe S.synced.pend.length = S.now := HGd.out.symm
        rw [e0, show S.synced.n = n from HSn.out.1] at this
        exact this
      have H8 : Hid _ := h8
      have HL8 : Hid _ := L8
      clear h8 f8 L8 HB7 HSy
      go_wp2_with fail
      refine Calls.mono HC8.out ?_
      rintro e w9 ⟨g9, k9, rfl, q1, q2, q3, q4, q5⟩
      have L9 : Hid (Lb w9 (.slice (some ⟨g9, 0, none⟩) (512 * n) k9) (512 * n) S.now) := q2.lb q3 q4
      have H9 : Hid _ := H8.out.more q5
      obtain ⟨y3, y4, y5, y6, y7⟩ := HL8.out
      have HL9 : Hid _ := And.intro (y3.up q5) (And.intro (y4.up q5) (And.intro (y5.up q5) (And.intro (y6.up q5) (y7.up q5))))
      clear q1 q2 q3 q4 q5 y3 y4 y5 y6 y7 HC8 H8 HL8
      go_wp2_with fail
      refine (same_yes HL9.out.1 HL9.out.2.2.2.1).mono ?_
      rintro e x1 ⟨rfl, v1⟩
      have V1 : Hid (Up w9 x1) := v1
      clear v1
      go_wp2_with fail
      refine (same_yes (HL9.out.2.1.up V1.out) (HL9.out.2.2.2.1.up V1.out)).mono ?_
      rintro e x2 ⟨rfl, v2⟩
      have V2 : Hid (Up w9 x2) := V1.out.trans v2
      clear v2 V1
      go_wp2_with fail
      refine (same_yes (HL9.out.2.2.1.up V2.out) (HL9.out.2.2.2.2.up V2.out)).mono ?_
      rintro e x3 ⟨rfl, v3⟩
      have V3 : Hid (Up w9 x3) := V2.out.trans v3
      clear v3 V2
      go_wp2_with fail
      refine (same_yes (L9.out.up V3.out) (HL9.out.2.2.2.1.up V3.out)).mono ?_
      rintro e x4 ⟨rfl, v4⟩
      have V4 : Hid (Up w9 x4) := V3.out.trans v4
      have H10 : Hid _ := H9.out.more V4.out
      clear v4 V3 V4 L9 HL9 H9
      go_wp2_with fail
      refine (H10.out.pending).mono ?_
      rintro e w' ⟨rfl, hw'⟩
      obtain rfl := hw'.symm
      rw [show ((S.synced.pend.length : Nat) : Int) = 0 from rfl]
      go_wp2_with fail
      refine (HFi.out _).mono ?_
      rintro e x5 ⟨g5', k5', rfl, q1, q2, q3, q4, q5⟩
      have HWr : Hid _ := H10.out.write (i := 0) q5 q1 q2 q3 q4 (by show 0 < S.n; rw [HSn.out.1]; omega) (by show S.left ≠ 0; rw [HSn.out.2.2.1]; decide) (by show 0 ≤ _; decide)
      clear q1 q2 q3 q4 q5 H10
      go_wp2_with fail
      refine Calls.mono HWr.out ?_
      rintro e x6 ⟨rfl, h6, _⟩
      have HE : Hid (Up W x6) := h6.up
      clear h6 HWr
      go_wp2_with fail
      go_ret
      exact ⟨by first | rfl | (simp; done), HE.out⟩
end Go.Proofs.Ytplhhghipmffcaa
