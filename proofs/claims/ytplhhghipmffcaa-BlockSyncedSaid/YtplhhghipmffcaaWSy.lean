/- BlockSynced: the walk. -/
import Derived.Test.YtplhhghipmffcaaBkL
namespace Go.Proofs.Ytplhhghipmffcaa
open Go.RowKit
set_option linter.unusedVariables false
set_option linter.unusedSimpArgs false
variable {w w' W : World} {g n m o : Nat} {f f' : Nat → Int} {K K' : Nat → Prop} {sb : Nat} {A : Ad} {S : Sto}
/-- each byte that is left is that of the Sync, or of a write behind it -/
theorem crash_byte {pk : Nat → Int} {l : List PW} (f : Nat → Int) (a : Nat) : ∀ i, crashN pk l f i a = f a ∨ ∃ j x, j < i ∧ l[j]? = some x ∧ 512 * x.1 ≤ a ∧ a < 512 * x.1 + 512 ∧ crashN pk l f i a = x.2 (a - 512 * x.1)
  | 0 => Or.inl rfl
  | i + 1 => by
    have ih := crash_byte (pk := pk) (l := l) f a i
    cases hl : l[i]? with
    | none =>
      have e : crashN pk l f (i + 1) = crashN pk l f i := by
        show (match l[i]? with | some x => tear (crashN pk l f i) x (pk i) | none => crashN pk l f i) = _
        rw [hl]
      rw [e]
      rcases ih with h | ⟨j, x, h1, h2⟩
      · exact Or.inl h
      · exact Or.inr ⟨j, x, by omega, h2⟩
    | some x =>
      rw [crashN_succ hl]
      have hs := sp_le (pk i)
      unfold tear
      by_cases hin : 512 * x.1 + spFrom (pk i) ≤ a ∧ a < 512 * x.1 + spFrom (pk i) + spLen (pk i)
      · refine Or.inr ⟨i, x, by omega, hl, by omega, by omega, ?_⟩
        rw [putF_in _ _ hin.1 hin.2]
        show x.2 _ = x.2 _
        rw [show spFrom (pk i) + (a - (512 * x.1 + spFrom (pk i))) = a - 512 * x.1 by omega]
      · rw [putF_out _ _ hin]
        rcases ih with h | ⟨j, y, h1, h2⟩
        · exact Or.inl h
        · exact Or.inr ⟨j, y, by omega, h2⟩
theorem Sto.many_pend (S : Sto) (h : Nat → Int) (hS : S.pend = []) : ∀ i, (S.many h i).pend = (List.range i).map (fun j => (secN S.n (h j), fillF (h j)))
  | 0 => hS
  | i + 1 => by
    show (S.many h i).pend ++ [_] = _
    rw [S.many_pend h hS i, List.range_succ, List.map_append]
    rfl
theorem Sto.made_pend (n sl : Nat) (hs : Nat → Int) (pl : Nat) (hp : Nat → Int) : (Sto.made n sl hs pl hp).pend = (List.range pl).map (fun j => (secN n (hp j), fillF (hp j))) := by
  unfold Sto.made
  rw [Sto.many_pend _ _ rfl]
  have : (((Sto.fresh n (fun _ => 0)).many hs sl).synced).n = n := by
    show ((Sto.fresh n (fun _ => 0)).many hs sl).n = n
    rw [Sto.many_n]
    rfl
  rw [this]
/-- what BlockSynced looks for -/
theorem synced_byte (n sl : Nat) (hs : Nat → Int) (pl : Nat) (hp hp' : Nat → Int) (pk : Nat → Int) (k b : Nat) (hb : b < 512) :
    crashN pk (Sto.made n sl hs pl hp).pend (Sto.made n sl hs pl hp).safe (Sto.made n sl hs pl hp).pend.length (512 * k + b) = (Sto.made n sl hs 0 hp').now (512 * k + b) ∨ ∃ j, j < pl ∧ secN n (hp j) = k ∧ fillF (hp j) b = crashN pk (Sto.made n sl hs pl hp).pend (Sto.made n sl hs pl hp).safe (Sto.made n sl hs pl hp).pend.length (512 * k + b) := by
  rcases crash_byte (pk := pk) (l := (Sto.made n sl hs pl hp).pend) (Sto.made n sl hs pl hp).safe (512 * k + b) (Sto.made n sl hs pl hp).pend.length with h | ⟨j, x, h1, h2, h3, h4, h5⟩
  · exact Or.inl (h.trans (congrFun (Sto.made_safe ..) _))
  · refine Or.inr ⟨j, by rw [Sto.made_len] at h1; exact h1, ?_⟩
    rw [Sto.made_pend, List.getElem?_map, List.getElem?_range (by rw [Sto.made_len] at h1; exact h1)] at h2
    have h2 : (secN n (hp j), fillF (hp j)) = x := by simpa using h2
    subst h2
    have e : secN n (hp j) = k := by
      have h3 : 512 * secN n (hp j) ≤ 512 * k + b := h3
      have h4 : 512 * k + b < 512 * secN n (hp j) + 512 := h4
      omega
    refine ⟨e, ?_⟩
    rw [h5]
    show fillF (hp j) b = fillF (hp j) (512 * k + b - 512 * secN n (hp j))
    exact fillF_eq (by omega)
set_option maxRecDepth 100000 in
set_option maxHeartbeats 4000000 in
theorem synced_walk {x : Int} {a1 a2 a3 : Option Addr} {b1 o1 sl c1 b2 o2 pl c2 b3 o3 kl c3 : Nat} {hs hp hk : Nat → Int} (hx : I64 x) (D1 : Ints W a1 b1 o1 sl c1 hs) (D2 : Ints W a2 b2 o2 pl c2 hp) (D5 : Ints W a3 b3 o3 kl c3 hk) :
    Calls Try.prog 7 #[.int .i64 x, .slice a1 sl c1, .slice a2 pl c2, .slice a3 kl c3] W fun e w' => e = .returned (.bool true) ∧ Up W w' := by
  have HPk : Hid (∀ w, Calls Try.prog 13 #[.int .i64 x, .int .i64 5] w fun e w' => e = .returned (.int .i64 (pickI x 5)) ∧ w' = w) := fun w => pick_any x 5 w hx (by decide) (by decide)
  have p1 := pickI_lo x 5 (by decide)
  have p2 := pickI_hi x 5 (by decide)
  have HF1 : Hid (∀ w, w = W → Calls Try.prog 17 #[.slice a1 sl c1, .int .i64 6] w fun e w' => e = .returned (.slice a1 (min sl 6) c1) ∧ w' = w) := fun w hw => by subst hw; exact few_any (k := 6) D1 (by decide)
  have HF2 : Hid (∀ w, w = W → Calls Try.prog 17 #[.slice a2 pl c2, .int .i64 6] w fun e w' => e = .returned (.slice a2 (min pl 6) c2) ∧ w' = w) := fun w hw => by subst hw; exact few_any (k := 6) D2 (by decide)
  obtain ⟨sn, hsn⟩ : ∃ sn, sn = min sl 6 := ⟨_, rfl⟩
  obtain ⟨pn, hpn⟩ : ∃ pn, pn = min pl 6 := ⟨_, rfl⟩
  have D3 := D1.less (k := sn) (by omega)
  have D4 := D2.less (k := pn) (by omega)
  have hs6 : sn ≤ 6 := by omega
  have hp6 : pn ≤ 6 := by omega
  have l4 : c2 ≤ 9223372036854775807 := by have := D2.cm; unfold maxLen at this; omega
  have l3 := D4.lc
  rw [← hsn] at HF1
  rw [← hpn] at HF2
  clear D1 D2 hsn hpn hx
  generalize pickI x 5 = MI at *
  obtain ⟨q, rfl⟩ := Int.eq_ofNat_of_zero_le p1
  obtain ⟨n, hn⟩ : ∃ n, n = 1 + q := ⟨_, rfl⟩
  have hn1 : 1 ≤ n := by omega
  have hn2 : n ≤ 5 := by omega
  have en : (1 : Int) + (q : Int) = (n : Int) := by omega
  have HM1 : Hid (∀ w, w = W → Calls Try.prog 9 #[.int .i64 (n : Int), .slice a1 sn c1, .slice a2 pn c2] w fun e w' => ∃ sb, e = .returned (.tuple #[.pointer (some ⟨sb, 0, none⟩), .bool true]) ∧ Sx W (fun b => b < W.heap.size) sb (Sto.made n sn hs pn hp) w') := fun w hw => by
    subst hw
    exact made_any hn1 (by omega) D3 D4 (by omega) (by omega)
  have HM2 : Hid (∀ w, Up W w → Calls Try.prog 9 #[.int .i64 (n : Int), .slice a1 sn c1, .slice none 0 0] w fun e w' => ∃ sb, e = .returned (.tuple #[.pointer (some ⟨sb, 0, none⟩), .bool true]) ∧ Sx w (fun b => b < w.heap.size) sb (Sto.made n sn hs 0 (fun _ => 0)) w') := fun w u =>
    made_any hn1 (by omega) (D3.upI u) (Ints.none w _ (fun _ => i64zero)) (by omega) (by decide)
  have HFi : Hid (∀ (v : Int) w, I64 v → Calls Try.prog 11 #[.int .i64 v, .int .i64 0] w (Cop w 512 (fillF v))) := fun v w h => filled_any (m := 512) h (by decide) (by decide)
  have HPn : Hid (∀ (v : Int) w, I64 v → Calls Try.prog 13 #[.int .i64 v, .int .i64 (n : Int)] w fun e w' => e = .returned (.int .i64 ((secN n v : Nat) : Int)) ∧ w' = w) := fun v w hv => by
    have := pick_any v n w hv (by omega) (by omega)
    rw [secN_is n v hn1] at this
    exact this
  have HD4 : Hid (∀ w', Up W w' → Ints w' a2 b2 o2 pn c2 hp) := fun w' u => D4.upI u
  have HD5 : Hid (∀ w', Up W w' → Ints w' a3 b3 o3 kl c3 hk) := fun w' u => D5.upI u
  clear D3 D4 D5 hn
  go_enter Try.func7, Try.ntmps7
  go_wp2_with fail
  refine (HPk.out _).mono ?_
  rintro e w' ⟨rfl, hw'⟩
  obtain rfl := hw'.symm
  clear HPk
  go_wp2_with fail
  refine (HF1.out _ rfl).mono ?_
  rintro e w' ⟨rfl, hw'⟩
  obtain rfl := hw'.symm
  clear HF1
  go_wp2_with fail
  refine (HF2.out _ rfl).mono ?_
  rintro e w' ⟨rfl, hw'⟩
  obtain rfl := hw'.symm
  clear HF2
  go_wp2_with fail
  refine (HM1.out _ rfl).mono ?_
  rintro e w1 ⟨sb, rfl, h1⟩
  have H1 : Hid (Sx W (fun b => b < W.heap.size) sb (Sto.made n sn hs pn hp) w1) := h1
  clear h1 HM1
  go_wp2_with fail
  refine (HM2.out _ H1.out.up).mono ?_
  rintro e w2 ⟨tb, rfl, h2⟩
  have H2 : Hid (Sx W (fun b => b < W.heap.size) sb (Sto.made n sn hs pn hp) w2 ∧ Sx w1 (fun b => b < w1.heap.size) tb (Sto.made n sn hs 0 (fun _ => 0)) w2) := ⟨H1.out.more h2.up, h2⟩
  clear h2 HM2 H1
  have HSn : Hid ((Sto.made n sn hs pn hp).n = n ∧ (Sto.made n sn hs pn hp).pend.length = pn ∧ (Sto.made n sn hs 0 (fun _ => 0)).n = n) := ⟨Sto.made_n .., Sto.made_len .., Sto.made_n ..⟩
  have HBy : Hid (∀ k b, b < 512 → _) := fun k b hb => synced_byte n sn hs pn hp (fun _ => 0) (pkN kl hk) k b hb
  generalize Sto.made n sn hs pn hp = S at *
  generalize Sto.made n sn hs 0 (fun _ => 0) = T at *
  go_wp2_with fail
  have HIm : Hid _ := H2.out.2.image
  rw [HSn.out.2.2] at HIm
  refine Calls.mono HIm.out ?_
  rintro e w3 ⟨g3, k3, rfl, q1, q2, q3, q4, q5⟩
  have L3 : Hid (By w3 g3 (512 * n) T.now ∧ Sx W (fun b => b < W.heap.size) sb S w3) := ⟨q2, H2.out.1.more q5⟩
  have m3 : 512 * n ≤ k3 := q3
  have m3b : k3 ≤ 9223372036854775807 := by unfold maxLen at q4; omega
  clear q1 q2 q3 q4 q5 HIm H2
  go_wp2_with fail
  have HCr : Hid _ := L3.out.2.crash (by rw [HSn.out.2.1]; omega) (HD5.out w3 L3.out.2.up)
  rw [HSn.out.1] at HCr
  refine Calls.mono HCr.out ?_
  rintro e w4 ⟨g4, k4, rfl, q1, q2, q3, q4, q5⟩
  generalize hLF : crashN (pkN kl hk) S.pend S.safe S.pend.length = LF at *
  have L4 : Hid (By w4 g3 (512 * n) T.now ∧ By w4 g4 (512 * n) LF ∧ Up W w4 ∧ k4 ≤ maxLen) := ⟨L3.out.1.up q5, q2, L3.out.2.up.trans q5, q4⟩
  have m4 : 512 * n ≤ k4 := q3
  have m4b : k4 ≤ 9223372036854775807 := by unfold maxLen at q4; omega
  clear q1 q2 q3 q4 q5 HCr L3 HSn hLF
  generalize T.now = TF at *
  obtain ⟨N, hN⟩ : ∃ N, N = 512 * n := ⟨_, rfl⟩
  have eN : (512 : Int) * (n : Int) = (N : Int) := by omega
  have HN : Hid (N = 512 * n) := hN
  rw [← hN] at L4 m3 m4
  rw [← hN]
  clear hN
  go_wp2_with fail
  have HUp : Hid (∀ w, Up w4 w → By w g3 N TF ∧ By w g4 N LF ∧ Up W w) := fun w u => ⟨L4.out.1.up u, L4.out.2.1.up u, L4.out.2.2.1.trans u⟩
  have HL4 : Hid (k4 ≤ maxLen) := L4.out.2.2.2
  clear L4
  have U0 : Hid (Up w4 w4) := Up.refl w4
  go_loopw [16, 17, 18, 19, 20] (fun I _ _ _ _ wr => ∃ k : Nat, k ≤ n ∧ I = .int .i64 k ∧ Hid (Up w4 wr)) (fun I _ _ _ _ _ => n - (intOf I).toNat)
  case atStart => exact ⟨0, by omega, rfl, U0⟩
  case round =>
    clear U0
    obtain ⟨k, hk, rfl, M0⟩ := hrel
    by_cases hlt : k < n
    · have e1 : (k : Int) < (n : Int) := by omega
      obtain ⟨wA, rfl⟩ : ∃ wA, wA = wr := ⟨_, rfl⟩
      go_wp2_with fail
      go_loopw [17, 18, 19, 20] (fun I _ _ _ wr => ∃ b : Nat, b ≤ 512 ∧ I = .int .i64 b ∧ Hid (Up w4 wr)) (fun I _ _ _ _ => 512 - (intOf I).toNat)
      case atStart => exact ⟨0, by omega, rfl, M0⟩
      case round =>
        clear M0
        obtain ⟨b, hb, rfl, M0⟩ := hrel
        by_cases hblt : b < 512
        · have e2 : (b : Int) < 512 := by omega
          obtain ⟨I, hI⟩ : ∃ I, I = 512 * k + b := ⟨_, rfl⟩
          have hIN : I < N := by have := HN.out; omega
          have eI : (512 : Int) * (k : Int) + (b : Int) = (I : Int) := by omega
          have hIN2 : (I : Int) < (N : Int) := by omega
          have HB : Hid (LF I = TF I ∨ ∃ j, j < pn ∧ secN n (hp j) = k ∧ fillF (hp j) b = LF I) := by rw [hI]; exact HBy.out k b hblt
          have kL := (HUp.out wr M0.out).2.1.cell I hIN
          have kT := (HUp.out wr M0.out).1.cell I hIN
          have HKL : Hid (∀ w, Up w4 w → w.cell? ⟨g4, I, none⟩ = some (.int .u8 (LF I))) := fun w u => (HUp.out w u).2.1.cell I hIN
          have HD6 : Hid (∀ w, Up w4 w → Ints w a2 b2 o2 pn c2 hp) := fun w u => HD4.out w (HUp.out w u).2.2
          clear hI HBy HUp HD5 HD4
          generalize LF I = lv at *
          generalize TF I = tv at *
          obtain ⟨wB, rfl⟩ : ∃ wB, wB = wr := ⟨_, rfl⟩
          go_wp2_with fail
          go_quiet (fail)
          have M1 : Hid (Up w4 (wB.drewN nq)) := M0.out.trans (Up.drewN wB nq)
          clear M0 kL kT
          generalize World.drewN wB nq = wC at M1 ⊢
          have HC0 : Hid ((lv == tv) = false → ∃ j, 0 ≤ j ∧ j < pn ∧ secN n (hp j) = k ∧ fillF (hp j) b = lv) := fun hne => by
            rcases HB.out with h | ⟨j, h1, h2, h3⟩
            · rw [h] at hne
              simp at hne
            · exact ⟨j, Nat.zero_le _, h1, h2, h3⟩
          clear HB
          generalize hmb : (lv == tv) = mb0 at HC0 ⊢
          clear hmb
          go_wp2_with fail
          go_loopw [18, 19, 20] (fun M I _ wr => ∃ (mb : Bool) (i : Nat), i ≤ pn ∧ M = .bool mb ∧ I = .int .i64 i ∧ Hid (Up w4 wr ∧ (mb = false → ∃ j, i ≤ j ∧ j < pn ∧ secN n (hp j) = k ∧ fillF (hp j) b = lv))) (fun _ I _ _ => pn - (intOf I).toNat)
          case atStart => exact ⟨mb0, 0, by omega, rfl, rfl, M1.out, HC0.out⟩
          case round =>
            clear M1 HC0
            obtain ⟨mb, i, hi, rfl, rfl, M2⟩ := hrel
            cases mb
            · obtain ⟨j, hj1, hj2, hj3, hj4⟩ := M2.out.2 rfl
              have hipn : i < pn := by omega
              have e3 : (i : Int) < (pn : Int) := by omega
              have ee := HD6.out wr M2.out.1
              obtain rfl := ee.ad (by omega)
              have kc := ee.cell i hipn
              have ic := ee.i64 i
              have HPx : Hid (∀ w : World, _) := fun w => HPn.out (hp i) w ic
              have HFx : Hid (∀ w : World, _) := fun w => HFi.out (hp i) w ic
              have HKc : Hid (∀ w, Up w4 w → w.cell? ⟨b2, o2 + i, none⟩ = some (.int .i64 (hp i))) := fun w u => (HD6.out w u).cell i hipn
              have HJ : Hid (∃ j, i ≤ j ∧ j < pn ∧ secN n (hp j) = k ∧ fillF (hp j) b = lv) := ⟨j, hj1, hj2, hj3, hj4⟩
              clear ee ic hj1 hj2 hj3 hj4
              go_wp2_with fail
              refine (HFx.out _).mono ?_
              rintro e w5 ⟨g5, k5, rfl, q1, q2, q3, q4, q5⟩
              have M3 : Hid (Up w4 w5 ∧ By w5 g5 512 (fillF (hp i))) := ⟨M2.out.1.trans q5, q2⟩
              have m5 : k5 ≤ 9223372036854775807 := by unfold maxLen at q4; omega
              clear q1 q2 q4 q5 M2 HFx kc
              have kd := M3.out.2.cell b hblt
              have kL := HKL.out w5 M3.out.1
              have kc := HKc.out w5 M3.out.1
              have HN1 : Hid ((secN n (hp i) = k ∧ fillF (hp i) b = lv) ∨ ∃ j, i + 1 ≤ j ∧ j < pn ∧ secN n (hp j) = k ∧ fillF (hp j) b = lv) := by
                obtain ⟨j, h1, h2, h3, h4⟩ := HJ.out
                by_cases e : j = i
                · subst e
                  exact Or.inl ⟨h3, h4⟩
                · exact Or.inr ⟨j, by omega, h2, h3, h4⟩
              clear HJ HKL HKc HD6 HPn HFi
              generalize fillF (hp i) b = dv at *
              generalize hp i = X at *
              generalize hsn : secN n X = sn' at *
              by_cases c1 : sn' = k
              · have f1 : ((sn' : Int) == (k : Int)) = true := by rw [c1]; simp
                go_wp2_with fail
                go_quiet ((go_at_call 13; exact Calls.quiet_of_same (HPx.out _)))
                have M4 : Hid (Up w4 (w5.drewN nq)) := M3.out.1.trans (Up.drewN w5 nq)
                clear M3 kd kL kc
                generalize World.drewN w5 nq = w6 at M4 ⊢
                have HN2 : Hid ((dv == lv) = false → ∃ j, i + 1 ≤ j ∧ j < pn ∧ secN n (hp j) = k ∧ fillF (hp j) b = lv) := fun hne => by
                  rcases HN1.out with ⟨_, h⟩ | h
                  · rw [h] at hne
                    simp at hne
                  · exact h
                clear HN1
                generalize (dv == lv) = mb1 at HN2 ⊢
                go_wp2_with fail
                refine ⟨⟨mb1, i + 1, by omega, by first | rfl | (simp; done), by first | rfl | (simp; done), M4.out, HN2.out⟩, ?_⟩
                simp [intOf]
                try omega
              · have f1 : ((sn' : Int) == (k : Int)) = false := beq_eq_false_iff_ne.2 (by omega)
                go_wp2_with fail
                go_quiet ((go_at_call 13; exact Calls.quiet_of_same (HPx.out _)))
                have M4 : Hid (Up w4 (w5.drewN nq)) := M3.out.1.trans (Up.drewN w5 nq)
                clear M3 kd kL kc
                generalize World.drewN w5 nq = w6 at M4 ⊢
                have HN2 : Hid (∃ j, i + 1 ≤ j ∧ j < pn ∧ secN n (hp j) = k ∧ fillF (hp j) b = lv) := by
                  rcases HN1.out with ⟨h, _⟩ | h
                  · exact absurd h c1
                  · exact h
                clear HN1
                go_wp2_with fail
                refine ⟨⟨false, i + 1, by omega, by first | rfl | (simp; done), by first | rfl | (simp; done), M4.out, fun _ => HN2.out⟩, ?_⟩
                simp [intOf]
                try omega
            · have M3 : Hid (Up w4 wr) := M2.out.1
              clear M2
              by_cases c3 : i < pn
              all_goals
                first
                | (have e3 : (i : Int) < (pn : Int) := by omega)
                | (have e3 : ¬ (i : Int) < (pn : Int) := by omega)
                go_wp2_with fail
                refine ⟨⟨b + 1, by omega, by first | rfl | (simp; done), M3⟩, ?_⟩
                simp [intOf]
                try omega
        · have e2 : ¬ (b : Int) < 512 := by omega
          go_wp2_with fail
          refine ⟨⟨k + 1, by omega, by first | rfl | (simp; done), M0⟩, ?_⟩
          simp [intOf]
          try omega
    · have e1 : ¬ (k : Int) < (n : Int) := by omega
      have HOf : Hid (Calls Try.prog 21 #[.slice (some ⟨g4, 0, none⟩) N k4] wr fun e w' => ∃ sb, e = .returned (.tuple #[.pointer (some ⟨sb, 0, none⟩), .int .i64 0]) ∧ Sx wr (fun b => b < wr.heap.size) sb (Sto.fresh n LF) w') := by
        have hb := (HUp.out wr M0.out).2.1
        have h1 := hb.lb m4 HL4.out
        rw [HN.out] at h1
        have := of_ok (K := fun b => b < wr.heap.size) h1 hn1 (by omega) (fun b hb => hb)
        rw [← HN.out] at this
        exact this.mono fun e w' ⟨sb, q1, q2, q3⟩ => ⟨sb, q1, q2, q3, fun b hb => hb⟩
      clear HBy
      go_wp2_with fail
      refine Calls.mono HOf.out ?_
      rintro e w5 ⟨ab, rfl, h5⟩
      have H5 : Hid (Sx wr (fun b => b < wr.heap.size) ab (Sto.fresh n LF) w5 ∧ Up w4 w5) := ⟨h5, M0.out.trans h5.up⟩
      clear h5 HOf M0
      go_wp2_with fail
      refine (H5.out.1.pending).mono ?_
      rintro e w' ⟨rfl, hw'⟩
      obtain rfl := hw'.symm
      rw [show (((Sto.fresh n LF).pend.length : Nat) : Int) = 0 from rfl]
      go_wp2_with fail
      refine (H5.out.1.image).mono ?_
      rintro e w6 ⟨g6, k6, rfl, q1, q2, q3, q4, q5⟩
      have q2' : By w6 g6 (512 * n) LF := q2
      have hl6 : Lb w6 (.slice (some ⟨g6, 0, none⟩) N k6) N LF := by rw [HN.out]; exact q2'.lb q3 q4
      have H6 : Hid (Lb w6 (.slice (some ⟨g6, 0, none⟩) N k6) N LF ∧ Sx wr (fun b => b < wr.heap.size) ab (Sto.fresh n LF) w6 ∧ Up w4 w6) := ⟨hl6, H5.out.1.more q5, H5.out.2.trans q5⟩
      rw [show 512 * (Sto.fresh n LF).n = N from HN.out.symm]
      clear q1 q2 q3 q4 q5 q2' hl6 H5
      go_wp2_with fail
      refine (same_yes H6.out.1 ((HUp.out w6 H6.out.2.2).2.1.lb m4 HL4.out)).mono ?_
      rintro e w7 ⟨rfl, u7⟩
      have H7 : Hid (Sx wr (fun b => b < wr.heap.size) ab (Sto.fresh n LF) w7 ∧ Up w4 w7) := ⟨H6.out.2.1.more u7, H6.out.2.2.trans u7⟩
      clear u7 H6
      go_wp2_with fail
      have HCr : Hid _ := H7.out.1.crash (by show 0 ≤ _; decide) (HD5.out w7 (HUp.out w7 H7.out.2).2.2)
      refine Calls.mono HCr.out ?_
      rintro e w8 ⟨g8, k8, rfl, q1, q2, q3, q4, q5⟩
      have q2' : By w8 g8 (512 * n) LF := q2
      have hl8 : Lb w8 (.slice (some ⟨g8, 0, none⟩) N k8) N LF := by rw [HN.out]; exact q2'.lb q3 q4
      have H8 : Hid (Lb w8 (.slice (some ⟨g8, 0, none⟩) N k8) N LF ∧ Up w4 w8) := ⟨hl8, H7.out.2.trans q5⟩
      rw [show 512 * (Sto.fresh n LF).n = N from HN.out.symm]
      clear q1 q2 q3 q4 q5 q2' hl8 H7 HCr
      go_wp2_with fail
      refine (same_yes H8.out.1 ((HUp.out w8 H8.out.2).2.1.lb m4 HL4.out)).mono ?_
      rintro e w9 ⟨rfl, u9⟩
      have H9 : Hid (Up W w9) := (HUp.out w9 (H8.out.2.trans u9)).2.2
      clear u9 H8
      go_wp2_with fail
      go_ret
      exact ⟨by first | rfl | (simp; done), H9.out⟩
end Go.Proofs.Ytplhhghipmffcaa
