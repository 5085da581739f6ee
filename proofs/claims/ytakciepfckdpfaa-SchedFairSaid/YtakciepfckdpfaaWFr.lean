/- Proved: the walk of SchedFair. -/
import Derived.Test.YtakciepfckdpfaaScS
namespace Go.Proofs.Ytakciepfckdpfaa
open Go.RowKit
set_option linter.unusedVariables false
set_option linter.unusedSimpArgs false
variable {W : World}
theorem arr12 {v : Value} {j : Nat} (hj : j < 12) : (#[v, v, v, v, v, v, v, v, v, v, v, v] : Array Value)[j]? = some v := by
  have : j = 0 ∨ j = 1 ∨ j = 2 ∨ j = 3 ∨ j = 4 ∨ j = 5 ∨ j = 6 ∨ j = 7 ∨ j = 8 ∨ j = 9 ∨ j = 10 ∨ j = 11 := by omega
  rcases this with rfl | rfl | rfl | rfl | rfl | rfl | rfl | rfl | rfl | rfl | rfl | rfl <;> rfl
set_option maxRecDepth 100000 in
set_option maxHeartbeats 8000000 in
theorem fair_walk {a0 a1 a2 : Int} {aa : Option Addr} {ab ao len cap : Nat} {f : Nat → Nat → Int} (h0 : I64 a0) (h1 : I64 a1) (h2 : I64 a2) (D : Act2s W aa ab ao len cap f) :
    Calls Try.prog 5 #[.int .i64 a0, .int .i64 a1, .int .i64 a2, .slice aa len cap] W fun e w' => e = .returned (.bool true) ∧ Up W w' := by
  have l1 := D.lc
  have l2 : cap ≤ 9223372036854775807 := by have := D.cm; unfold maxLen at this; omega
  obtain ⟨k0, hk0, HP8⟩ := pick_nat a0 8 h0 (by decide) (by decide)
  obtain ⟨n0, hn0, HP12⟩ := pick_nat a1 12 h1 (by decide) (by decide)
  have HB : Hid (Calls Try.prog 8 #[] W fun e w' => e = .returned (.bool true) ∧ Up W w') := begun_any W
  have H8 : Hid (∀ w, Calls Try.prog 9 #[.int .i64 a0, .int .i64 8] w fun e w' => e = .returned (.int .i64 (k0 : Int)) ∧ w' = w) := HP8
  have H12 : Hid (∀ w, Calls Try.prog 9 #[.int .i64 a1, .int .i64 12] w fun e w' => e = .returned (.int .i64 (n0 : Int)) ∧ w' = w) := HP12
  obtain ⟨k, hk⟩ : ∃ k, k = 1 + k0 := ⟨_, rfl⟩
  obtain ⟨n, hn⟩ : ∃ n, n = 1 + n0 := ⟨_, rfl⟩
  have ek : (1 : Int) + (k0 : Int) = (k : Int) := by omega
  have en : (1 : Int) + (n0 : Int) = (n : Int) := by omega
  obtain ⟨me, hme, HPm⟩ := pick_nat a2 n h2 (by omega) (by omega)
  have HMe : Hid (∀ w, Calls Try.prog 9 #[.int .i64 a2, .int .i64 (n : Int)] w fun e w' => e = .returned (.int .i64 (me : Int)) ∧ w' = w) := HPm
  have HM : Hid (∀ w, Calls Try.prog 10 #[.int .i64 (k : Int), .int .i64 (n : Int)] w fun e w' => ∃ sb, e = .returned (.pointer (some ⟨sb, 0, none⟩)) ∧ Sx w (fun b => b < w.heap.size) sb ⟨allR n, offs k⟩ w') := fun w => made_any w (by omega) (by omega) (by omega)
  have HI : Hid (∀ w i, Up W w → i < len → aa = some ⟨ab, ao, none⟩ ∧ w.rangeAt ab (ao + i * 2) [.int .i64 (f i 0), .int .i64 (f i 1)] ∧ ∃ s : Nat, s < k ∧ tdF f n i < n ∧ kdF f i < 8 ∧ (∀ w, Calls Try.prog 9 #[.int .i64 (f i 1), .int .i64 (k : Int)] w fun e w' => e = .returned (.int .i64 (s : Int)) ∧ w' = w) ∧ (∀ w, Calls Try.prog 9 #[.int .i64 (f i 1), .int .i64 (n : Int)] w fun e w' => e = .returned (.int .i64 (tdF f n i : Int)) ∧ w' = w) ∧ (∀ w, Calls Try.prog 9 #[.int .i64 (f i 0), .int .i64 8] w fun e w' => e = .returned (.int .i64 (kdF f i : Int)) ∧ w' = w)) := fun w i u hi => by
    obtain ⟨s, hs, p1⟩ := pick_nat (f i 1) k (D.i64 i 1) (by omega) (by omega)
    exact ⟨D.ad (by omega), D.range u hi, s, hs, (pick_td D (by omega) (by omega) i).1, (pick_kd D i).1, p1, (pick_td D (by omega) (by omega) i).2, (pick_kd D i).2⟩
  have HRy : Hid (∀ w L j, Up W w → L ≤ len → Calls Try.prog 15 #[.slice aa L cap, .int .i64 ((j : Nat) : Int), .int .i64 (n : Int), .int .i64 (me : Int)] w fun e w' => e = .returned (.bool (rdF (kdF f) (tdF f n) me L (j : Int))) ∧ w' = w) := fun w L j u hL => readyL_any D (by omega) (by omega) u hL
  have hk8 : k ≤ 8 := by omega
  have hn12 : n ≤ 12 := by omega
  clear hk hn D hk0 hn0 HP8 HP12 HPm h0 h1 h2
  go_enter Try.func5, Try.ntmps5
  go_wp2_with fail
  refine Calls.mono HB.out ?_
  rintro e w1 ⟨rfl, u1⟩
  have HU1 : Hid (Up W w1) := u1
  clear u1 HB
  go_wp2_with fail
  refine (H8.out _).mono ?_
  rintro e w' ⟨rfl, hw⟩
  obtain rfl := hw.symm
  clear hw
  go_wp2_with fail
  refine (H12.out _).mono ?_
  rintro e w' ⟨rfl, hw⟩
  obtain rfl := hw.symm
  clear hw
  go_wp2_with fail
  refine (HMe.out _).mono ?_
  rintro e w' ⟨rfl, hw⟩
  obtain rfl := hw.symm
  clear hw H8 H12 HMe
  go_wp2_with fail
  refine (HM.out _).mono ?_
  rintro e w2 ⟨sb, rfl, h⟩
  have HS : Hid _ := h
  clear h HM
  go_wp2_with fail
  have hA1 : ((w2.alloc (Obj.cells #[.int .i64 0, .int .i64 0, .int .i64 0, .int .i64 0, .int .i64 0, .int .i64 0, .int .i64 0, .int .i64 0, .int .i64 0, .int .i64 0, .int .i64 0, .int .i64 0] 37)).alloc (Obj.cells #[.bool false, .bool false, .bool false, .bool false, .bool false, .bool false, .bool false, .bool false, .bool false, .bool false, .bool false, .bool false] 38)).heap[w2.heap.size]? = some (.cells #[.int .i64 0, .int .i64 0, .int .i64 0, .int .i64 0, .int .i64 0, .int .i64 0, .int .i64 0, .int .i64 0, .int .i64 0, .int .i64 0, .int .i64 0, .int .i64 0] 37 (0, 0)) := (((Up.refl _).alloc _).block _ (by simp)).trans (heap_alloc_new w2 _)
  have hA4 : ((w2.alloc (Obj.cells #[.int .i64 0, .int .i64 0, .int .i64 0, .int .i64 0, .int .i64 0, .int .i64 0, .int .i64 0, .int .i64 0, .int .i64 0, .int .i64 0, .int .i64 0, .int .i64 0] 37)).alloc (Obj.cells #[.bool false, .bool false, .bool false, .bool false, .bool false, .bool false, .bool false, .bool false, .bool false, .bool false, .bool false, .bool false] 38)).heap[w2.heap.size + 1]? = some (.cells #[.bool false, .bool false, .bool false, .bool false, .bool false, .bool false, .bool false, .bool false, .bool false, .bool false, .bool false, .bool false] 38 (0, 0)) := by
    have h9 := heap_alloc_new (w2.alloc (Obj.cells #[.int .i64 0, .int .i64 0, .int .i64 0, .int .i64 0, .int .i64 0, .int .i64 0, .int .i64 0, .int .i64 0, .int .i64 0, .int .i64 0, .int .i64 0, .int .i64 0] 37)) (Obj.cells #[.bool false, .bool false, .bool false, .bool false, .bool false, .bool false, .bool false, .bool false, .bool false, .bool false, .bool false, .bool false] 38)
    have e9 : (w2.alloc (Obj.cells #[.int .i64 0, .int .i64 0, .int .i64 0, .int .i64 0, .int .i64 0, .int .i64 0, .int .i64 0, .int .i64 0, .int .i64 0, .int .i64 0, .int .i64 0, .int .i64 0] 37)).heap.size = w2.heap.size + 1 := by simp
    rw [e9] at h9
    exact h9
  have hA2 : Up w2 ((w2.alloc (Obj.cells #[.int .i64 0, .int .i64 0, .int .i64 0, .int .i64 0, .int .i64 0, .int .i64 0, .int .i64 0, .int .i64 0, .int .i64 0, .int .i64 0, .int .i64 0, .int .i64 0] 37)).alloc (Obj.cells #[.bool false, .bool false, .bool false, .bool false, .bool false, .bool false, .bool false, .bool false, .bool false, .bool false, .bool false, .bool false] 38)) := ((Up.refl w2).alloc _).alloc _
  have hA3 : w2.heap.size + 1 < ((w2.alloc (Obj.cells #[.int .i64 0, .int .i64 0, .int .i64 0, .int .i64 0, .int .i64 0, .int .i64 0, .int .i64 0, .int .i64 0, .int .i64 0, .int .i64 0, .int .i64 0, .int .i64 0] 37)).alloc (Obj.cells #[.bool false, .bool false, .bool false, .bool false, .bool false, .bool false, .bool false, .bool false, .bool false, .bool false, .bool false, .bool false] 38)).heap.size := by simp
  generalize World.alloc (World.alloc w2 _) _ = w3 at hA1 hA2 hA3 hA4 ⊢
  obtain ⟨tb, htb⟩ : ∃ tb, tb = w2.heap.size := ⟨_, rfl⟩
  obtain ⟨yb, hyb⟩ : ∃ yb, yb = w2.heap.size + 1 := ⟨_, rfl⟩
  rw [← hyb] at hA4 hA3 ⊢
  rw [← htb] at hA1 ⊢
  obtain ⟨K, hK⟩ : ∃ K : Nat → Prop, K = fun b => b < w1.heap.size ∨ b = tb ∨ b = yb := ⟨_, rfl⟩
  have hsz := HS.out.up.size
  have hs3 : Sx w1 K sb ⟨allR n, offs k⟩ w3 := by
    rw [hK]
    exact HS.out.let' hA2 (fun b hb => hb.elim Or.inl (fun e => Or.inr ⟨by omega, by omega⟩)) (fun b hb => Or.inl hb)
  have HS3 : Hid (∃ st, Fa w1 K sb tb yb k (allR n) (fun _ => 0) st w3 ∧ ∀ y : Int, 0 ≤ y → y < 0 → st y = true) := ⟨fun _ => false, ⟨hs3, ⟨by rw [hK]; exact Or.inr (Or.inl rfl), by omega⟩, ⟨by rw [hK]; exact Or.inr (Or.inr rfl), by omega⟩, by omega, ⟨_, hA1, rfl, fun j hj => arr12 hj⟩, ⟨_, hA4, rfl, fun j hj => arr12 hj⟩⟩, fun y h0 h1 => by omega⟩
  clear HS hA1 hA2 hA3 hA4 htb hyb hK hs3 hsz
  go_loopw [16] (fun I wr => ∃ i : Nat, i ≤ n ∧ I = .int .i64 (i : Int) ∧ Hid (∃ st, Fa w1 K sb tb yb k (allR n) (fun _ => 0) st wr ∧ ∀ y : Int, 0 ≤ y → y < (i : Int) → st y = true)) (fun I _ => n - (intOf I).toNat)
  case atStart => exact ⟨0, by omega, rfl, HS3⟩
  case round =>
    clear HS3
    obtain ⟨i, hi, rfl, HS3⟩ := hrel
    by_cases hlt : i < n
    · have d1 : (i : Int) < (n : Int) := by omega
      have d2 : (i : Int) < 12 := by omega
      obtain ⟨st, ha, hst⟩ := HS3.out
      obtain ⟨kc, kf⟩ := ha.cellY (show i < 12 by omega)
      have H4 : Hid (∃ st, Fa w1 K sb tb yb k (allR n) (fun _ => 0) st (wr.setCell ⟨yb, i, none⟩ (.bool true)) ∧ ∀ y : Int, 0 ≤ y → y < ((i + 1 : Nat) : Int) → st y = true) := ⟨_, ha.setY i true, fun y h0 h1 => by
        by_cases e : y = (i : Int)
        · rw [if_pos e]
        · rw [if_neg e]
          exact hst y h0 (by omega)⟩
      clear HS3 ha hst
      go_wp2_with fail
      refine ⟨⟨i + 1, by omega, by first | rfl | (simp; done), H4⟩, ?_⟩
      simp [intOf]
      omega
    · have d1 : ¬ (i : Int) < (n : Int) := by omega
      have HC : Hid (∃ l T st, Fc w1 K sb tb yb k n (me : Int) (rdF (kdF f) (tdF f n) me 0) 0 false l T st wr) := by
        obtain ⟨st, ha, hst⟩ := HS3.out
        have h9 := Fi.start (n := n) (me := me) (rd := rdF (kdF f) (tdF f n) me 0) hme (fun x => rfl)
        exact ⟨_, _, st, ha, h9.len, h9.nd, h9.lo, h9.all, h9.rdy, h9.rme, h9.pos, h9.tb, fun x h0 h1 _ => rfl⟩
      clear HS3
      generalize wr = w5 at HC ⊢
      go_wp2_with fail
      go_loopw [17, 18, 19] (fun Q M I wr => ∃ i : Nat, i ≤ len ∧ I = .int .i64 (i : Int) ∧ ∃ (q : Nat) (mine : Bool), Q = .int .i64 (q : Int) ∧ q ≤ n ∧ M = .bool mine ∧ Hid (∃ l T st, Fc w1 K sb tb yb k n (me : Int) (rdF (kdF f) (tdF f n) me i) q mine l T st wr)) (fun _ _ I _ => len - (intOf I).toNat)
      case atStart => exact ⟨0, by omega, rfl, 0, false, rfl, by omega, rfl, HC⟩
      case round =>
        clear HC
        obtain ⟨i, hi, rfl, q, mine, rfl, hq, rfl, HC⟩ := hrel
        by_cases hlt : i < len
        · have d2 : (i : Int) < (len : Int) := by omega
          obtain ⟨l, T, st, hc⟩ := HC.out
          obtain ⟨rfl, hr, s, hs, ht, hcc, p1, p2, p3⟩ := HI.out wr i (HU1.out.trans hc.fa.sx.up) hlt
          have HR : Hid _ := hr
          have P1 : Hid _ := p1
          have P2 : Hid _ := p2
          have P3 : Hid _ := p3
          have HO : Hid _ := hc
          have HRF : Hid (∀ x, rdF (kdF f) (tdF f n) me (i + 1) x = if 6 ≤ kdF f i ∧ (tdF f n i : Int) = x ∧ tdF f n i ≠ me then decide (kdF f i = 6) else rdF (kdF f) (tdF f n) me i x) := fun x => rfl
          clear hr p1 p2 p3 hc HC HI
          generalize f i 0 = x0 at *
          generalize f i 1 = x1 at *
          generalize hR0 : rdF (kdF f) (tdF f n) me i = R0 at *
          generalize hR1 : rdF (kdF f) (tdF f n) me (i + 1) = R1 at *
          have HR1 : Hid (rdF (kdF f) (tdF f n) me (i + 1) = R1) := hR1
          clear hR0 hR1
          generalize kdF f i = c at *
          generalize tdF f n i = tt at *
          go_wp2_with (refine wpList_load_mid rfl 29 _ rfl ab (ao + i * 2) rfl [.int .i64 x0, .int .i64 x1] _ HR.out Try.underlying29 rfl (by kernel_rfl) ?_)
          have HO2 : Hid (Fc w1 (fun b => K b ∨ b = wr.heap.size) sb tb yb k n (me : Int) R0 q mine l T st (wr.alloc (Obj.cells #[.int .i64 x0, .int .i64 x1] 29)) ∧ (∀ b, b < w1.heap.size → K b) ∧ K tb ∧ K yb ∧ ∀ w, Up (wr.alloc (Obj.cells #[.int .i64 x0, .int .i64 x1] 29)) w → w.cell? ⟨wr.heap.size, 0, none⟩ = some (.int .i64 x0) ∧ w.cell? ⟨wr.heap.size, 1, none⟩ = some (.int .i64 x1)) := ⟨⟨⟨HO.out.fa.sx.let' ((Up.refl wr).alloc _) (fun b hb => hb.elim Or.inl (fun e => Or.inr ⟨by omega, by rw [e]; simp⟩)) (fun b hb => Or.inl hb), ⟨Or.inl HO.out.fa.kt.1, HO.out.fa.kt.2⟩, ⟨Or.inl HO.out.fa.ky.1, HO.out.fa.ky.2⟩, HO.out.fa.ne, HO.out.fa.ta.up ((Up.refl wr).alloc _), HO.out.fa.ya.up ((Up.refl wr).alloc _)⟩, HO.out.inv⟩, HO.out.fa.sx.old, HO.out.fa.kt.1, HO.out.fa.ky.1, fun w u => ⟨cell_up u (heap_cell (heap_alloc_new wr _) rfl), cell_up u (heap_cell (heap_alloc_new wr _) rfl)⟩⟩
          clear HO HR
          generalize World.alloc wr _ = w6 at HO2 ⊢
          generalize wr.heap.size = pa at HO2 ⊢
          obtain ⟨ho6, hko, hkt, hky, hk6⟩ := HO2.out
          have HLs : Hid (∀ (rd : Int → Bool) (q : Nat) (mine : Bool) (l : List Mem) (T : Int → Int) (st : Int → Bool) (w : World), Fc w1 (fun b => K b ∨ b = pa) sb tb yb k n (me : Int) rd q mine l T st w → Fc w1 K sb tb yb k n (me : Int) rd q mine l T st w) := fun rd q mine l T st w h => ⟨h.fa.less (fun b hb => Or.inl hb) hko hkt hky, h.inv⟩
          generalize hKp : (fun b => K b ∨ b = pa) = Kp at *
          have hpk2 : Kp pa := by rw [← hKp]; exact Or.inr rfl
          have HPk : Hid (Kp pa) := hpk2
          obtain ⟨ka, kb⟩ := hk6 w6 (Up.refl w6)
          have HO : Hid _ := ho6
          have HKA : Hid _ := hk6
          clear HO2 ho6 hk6 hko hkt hky hpk2 hKp
          refine (P2.out _).mono ?_
          rintro e w' ⟨rfl, hw⟩
          obtain rfl := hw.symm
          clear hw
          go_wp2_with fail
          refine (P3.out _).mono ?_
          rintro e w' ⟨rfl, hw⟩
          obtain rfl := hw.symm
          clear hw
          by_cases h6 : 6 ≤ c
          · have d6 : (6 : Int) ≤ (c : Int) := by omega
            by_cases htm : tt = me
            · have b1 : ((tt : Int) == (me : Int)) = true := by simp [htm]
              have HF : Hid (∃ l T st, Fc w1 K sb tb yb k n (me : Int) R1 q mine l T st w6) := ⟨_, _, _, HLs.out _ _ _ _ _ _ _ ⟨HO.out.fa, HO.out.inv.same (fun x => by rw [HRF.out x, if_neg (fun h => h.2.2 htm)])⟩⟩
              clear HO htm ka kb
              go_wp2_with fail
              refine ⟨⟨i + 1, by omega, by first | rfl | (simp; done), q, mine, rfl, hq, rfl, by rw [HR1.out]; exact HF⟩, ?_⟩
              simp [intOf]
              omega
            · have b1 : ((tt : Int) == (me : Int)) = false := by simp; omega
              have HRd : Hid _ := HO.out.ready (id := tt) (b := ((c : Int) == 6)) (rd' := R1) (by omega) (by rw [HRF.out, if_pos ⟨h6, rfl, htm⟩]; exact dec6 c) (fun x hx => by rw [HRF.out, if_neg (fun h => hx h.2.1.symm)])
              have hpa : Hid (pa = pa) := rfl
              clear HO htm
              go_wp2_with fail
              refine (P3.out _).mono ?_
              rintro e w' ⟨rfl, hw⟩
              obtain rfl := hw.symm
              clear hw
              go_wp2_with fail
              refine Calls.mono HRd.out ?_
              rintro e w7 ⟨⟨z, rfl⟩, f7, l', ha, hc⟩
              have k7 : w7.cell? ⟨pa, 0, none⟩ = some (.int .i64 x0) := by
                rw [← ka]
                unfold World.cell?
                rw [f7.block pa (World.block_lt_of_cell? _ _ ka) HPk.out]
              obtain ⟨ky7, zy7⟩ := ha.cellY (show tt < 12 by omega)
              have d7 : (tt : Int) < 12 := by omega
              have HF : Hid _ := HLs.out _ _ _ _ _ _ _ hc
              clear f7 ha hc HRd ka kb
              generalize hst : st (tt : Int) = sv at ky7 HF
              clear hst
              cases sv
              · go_wp2_with fail
                refine ⟨⟨i + 1, by omega, by first | rfl | (simp; done), q, mine, rfl, hq, rfl, by rw [HR1.out]; exact ⟨_, _, _, HF.out⟩⟩, ?_⟩
                simp [intOf]
                omega
              · go_wp2_with fail
                refine (P3.out _).mono ?_
                rintro e w' ⟨rfl, hw⟩
                obtain rfl := hw.symm
                clear hw
                go_wp2_with fail
                refine ⟨⟨i + 1, by omega, by first | rfl | (simp; done), q, mine, rfl, hq, rfl, by rw [HR1.out]; exact ⟨_, _, _, HF.out⟩⟩, ?_⟩
                simp [intOf]
                omega
          · have d6 : ¬ (6 : Int) ≤ (c : Int) := by omega
            have HT : Hid _ := (Fc.mk HO.out.fa (HO.out.inv.same (rd' := R1) (fun x => by rw [HRF.out x, if_neg (fun h => h6 h.1)])) : Fc w1 Kp sb tb yb k n (me : Int) R1 q mine l T st w6).turn hs
            clear HO
            go_wp2_with fail
            refine (P1.out _).mono ?_
            rintro e w' ⟨rfl, hw⟩
            obtain rfl := hw.symm
            clear hw P1 P2 P3
            go_wp2_with fail
            refine Calls.mono HT.out ?_
            rintro e w7 ⟨x, rfl, hxn, h⟩
            have HT2 : Hid _ := h w7 rfl
            clear h HT ka kb
            go_wp2_with fail
            refine Calls.mono HT2.out ?_
            rintro e w8 ⟨⟨z, rfl⟩, ⟨l8, ha8⟩, t0, t1, h⟩
            clear HT2
            obtain ⟨kt8, zt8⟩ := ha8.cellT (show x < 12 by omega)
            have d7 : (x : Int) < 12 := by omega
            have d8 : ¬ (x : Int) < 0 := by omega
            have d9 : ¬ (n : Int) ≤ (x : Int) := by omega
            have b5 : decide ((x : Int) < 0) = false := decide_eq_false d8
            have b6 : decide ((n : Int) ≤ (x : Int)) = false := decide_eq_false d9
            have b7 : decide (n ≤ x) = false := decide_eq_false (by omega)
            rcases h with ⟨hxm, hq1, l9, hc⟩ | ⟨hxm, hcd, hm⟩
            · have b1 : ((x : Int) == (me : Int)) = false := by simpa using hxm
              have HF : Hid _ := HLs.out _ _ _ _ _ _ _ hc
              have d11 : ¬ (n : Int) ≤ (q : Int) + 1 := by omega
              clear ha8 hc hxm
              generalize T (x : Int) = tv at *
              go_wp2_with fail
              refine ⟨⟨i + 1, by omega, by first | rfl | (simp; done), q + 1, mine, by first | rfl | (simp; done), by omega, rfl, by rw [HR1.out]; exact ⟨_, _, _, HF.out⟩⟩, ?_⟩
              simp [intOf]
              omega
            · have b1 : ((x : Int) == (me : Int)) = true := by simpa using hxm
              have b8 : ((x : Int) != (me : Int)) = false := by rw [bne, b1]; rfl
              cases mine
              · skip
                have HCd : Hid (∀ y : Int, 0 ≤ y → y < (n : Int) → y ≠ (me : Int) → false = true → st y = true → T y = 1) := hcd
                have HM8 : Hid (∃ T1 st1, Fm w1 Kp sb tb yb k n (me : Int) R1 T1 st1 w8 ∧ (∀ y : Int, ((0 : Nat) : Int) ≤ y → T1 y = T y ∧ st1 y = st y) ∧ ∀ y : Int, 0 ≤ y → y < ((0 : Nat) : Int) → T1 y = 0) := ⟨T, st, hm, fun y _ => ⟨rfl, rfl⟩, fun y h0 h1 => by omega⟩
                clear ha8 hcd hm hxm kt8 zt8 t0 t1
                go_wp2_with fail
                go_loopw [27] (fun J wr => ∃ j : Nat, j ≤ n ∧ J = .int .i64 (j : Int) ∧ Hid (∃ T1 st1, Fm w1 Kp sb tb yb k n (me : Int) R1 T1 st1 wr ∧ (∀ y : Int, (j : Int) ≤ y → T1 y = T y ∧ st1 y = st y) ∧ ∀ y : Int, 0 ≤ y → y < (j : Int) → T1 y = 0)) (fun J _ => n - (intOf J).toNat)
                case atStart => exact ⟨0, by omega, rfl, HM8⟩
                case round =>
                  clear HM8
                  obtain ⟨j, hj, rfl, HM3⟩ := hrel
                  by_cases hjl : j < n
                  · have d12 : (j : Int) < (n : Int) := by omega
                    obtain ⟨T1, st1, hm, ha, hb⟩ := HM3.out
                    obtain ⟨kt, zt⟩ := hm.cellT (show j < 12 by omega)
                    obtain ⟨ky, zy⟩ := hm.cellY (show j < 12 by omega)
                    obtain ⟨eT, eS⟩ := ha (j : Int) (by omega)
                    have hcond := HCd.out (j : Int) (by omega) (by omega)
                    have hm2 := (hm.setT j 0).setY j true
                    have hne1 : ¬ tb = yb := hm.ne
                    have hne2 : ¬ yb = tb := fun e => hm.ne e.symm
                    have HM4 : Hid (∃ T1 st1, Fm w1 Kp sb tb yb k n (me : Int) R1 T1 st1 ((wr.setCell ⟨tb, j, none⟩ (.int .i64 0)).setCell ⟨yb, j, none⟩ (.bool true)) ∧ (∀ y : Int, ((j + 1 : Nat) : Int) ≤ y → T1 y = T y ∧ st1 y = st y) ∧ ∀ y : Int, 0 ≤ y → y < ((j + 1 : Nat) : Int) → T1 y = 0) :=
                      ⟨_, _, hm2, fun y hy => ⟨by rw [if_neg (by omega)]; exact (ha y (by omega)).1, by rw [if_neg (by omega)]; exact (ha y (by omega)).2⟩, fun y h0 h1 => by
                        by_cases e : y = (j : Int)
                        · rw [if_pos e]
                        · rw [if_neg e]
                          exact hb y h0 (by omega)⟩
                    rw [eT] at kt
                    rw [eS] at ky
                    have d10 : (j : Int) < 12 := by omega
                    clear hm ha hb eT eS hm2 HM3
                    generalize hTj : T (j : Int) = tv at *
                    generalize hSj : st (j : Int) = sv at *
                    clear hTj hSj
                    by_cases hjm : j = me
                    · clear hcond
                      subst hjm
                      have b2 : ((j : Int) == (j : Int)) = true := by simp
                      go_wp2_with fail
                      refine ⟨⟨j + 1, by omega, by first | rfl | (simp; done), HM4⟩, ?_⟩
                      simp [intOf]
                      omega
                    · have b2 : ((j : Int) == (me : Int)) = false := by simp; omega
                      clear hcond
                      go_wp2_with fail
                      refine ⟨⟨j + 1, by omega, by first | rfl | (simp; done), HM4⟩, ?_⟩
                      simp [intOf]
                      omega
                  · have d12 : ¬ (j : Int) < (n : Int) := by omega
                    obtain ⟨T1, st1, hm, ha, hb⟩ := HM3.out
                    have HZ : Hid (∀ y : Int, 0 ≤ y → y < (n : Int) → T1 y = 0) := fun y h0 h1 => hb y h0 (by omega)
                    have HRo : Hid _ := hm.round
                    clear HM3 hm ha hb HCd
                    generalize wr = w9 at HRo ⊢
                    go_wp2_with fail
                    refine Calls.mono HRo.out ?_
                    rintro e w10 ⟨g, cc, m, hm1, rfl, c1, c2, kg, hm⟩
                    have b3 : ((n : Int) == (n : Int)) = true := by simp
                    have e3 : (n : Int) - 1 = (m : Int) := by omega
                    have d13 : (m : Int) < (n : Int) := by omega
                    have HMn : Hid (n = m + 1) := hm1
                    have HM4 : Hid (∃ st1, Fm w1 Kp sb tb yb k n (me : Int) R1 T1 st1 w10 ∧ ∀ y : Int, 0 ≤ y → y < ((0 : Nat) : Int) → st1 y = R1 y) := ⟨_, hm, fun y h0 h1 => by omega⟩
                    clear hm HRo hm1
                    go_wp2_with fail
                    go_loopw [29] (fun J wr => ∃ j : Nat, j ≤ n ∧ J = .int .i64 (j : Int) ∧ Hid (∃ st1, Fm w1 Kp sb tb yb k n (me : Int) R1 T1 st1 wr ∧ ∀ y : Int, 0 ≤ y → y < (j : Int) → st1 y = R1 y)) (fun J _ => n - (intOf J).toNat)
                    case atStart => exact ⟨0, by omega, rfl, HM4⟩
                    case round =>
                      clear HM4
                      obtain ⟨j, hj, rfl, HM4⟩ := hrel
                      by_cases hjl : j < n
                      · have d14 : (j : Int) < (n : Int) := by omega
                        have d15 : (j : Int) < 12 := by omega
                        obtain ⟨st1, hm, hs1⟩ := HM4.out
                        obtain ⟨ky, zy⟩ := hm.cellY (show j < 12 by omega)
                        have HM5 : Hid (∃ st1, Fm w1 Kp sb tb yb k n (me : Int) R1 T1 st1 (wr.setCell ⟨yb, j, none⟩ (.bool (R1 (j : Int)))) ∧ ∀ y : Int, 0 ≤ y → y < ((j + 1 : Nat) : Int) → st1 y = R1 y) := ⟨_, hm.setY j (R1 (j : Int)), fun y h0 h1 => by
                          by_cases e : y = (j : Int)
                          · rw [if_pos e, e]
                          · rw [if_neg e]
                            exact hs1 y h0 (by omega)⟩
                        have hry := HRy.out wr (i + 1) j (HU1.out.trans hm.up) (by omega)
                        rw [HR1.out] at hry
                        have HRj : Hid _ := hry
                        clear hm hs1 HM4 hry
                        generalize R1 (j : Int) = rj at *
                        have e5 : ((i : Int) + 1).toNat = i + 1 := by omega
                        have e6 : (0 : Int) ≤ (i : Int) + 1 := by omega
                        have e7 : (i : Int) + 1 ≤ (cap : Int) := by omega
                        have e8 : IntKind.i64.wrap ((i : Int) + 1) = (i : Int) + 1 := by rw [IntKind.wrap_i64]; omega
                        go_wp2_with fail
                        refine Calls.mono HRj.out ?_
                        rintro e w' ⟨rfl, hw⟩
                        obtain rfl := hw.symm
                        clear hw HRj
                        go_wp2_with fail
                        refine ⟨⟨j + 1, by omega, by first | rfl | (simp; done), HM5⟩, ?_⟩
                        simp [intOf]
                        omega
                      · have d14 : ¬ (j : Int) < (n : Int) := by omega
                        have HF : Hid (∃ l T st, Fc w1 K sb tb yb k n (me : Int) R1 0 true l T st wr) := by
                          obtain ⟨st1, hm, hs1⟩ := HM4.out
                          obtain ⟨l, hc⟩ := hm.fin HZ.out (fun y h0 h1 => hs1 y h0 (by omega))
                          exact ⟨_, _, _, HLs.out _ _ _ _ _ _ _ hc⟩
                        clear HM4
                        go_wp2_with fail
                        refine ⟨⟨i + 1, by omega, by first | rfl | (simp; done), 0, true, by first | rfl | (simp; done), by omega, rfl, by rw [HR1.out]; exact HF⟩, ?_⟩
                        simp [intOf]
                        omega
              · skip
                have HCd : Hid (∀ y : Int, 0 ≤ y → y < (n : Int) → y ≠ (me : Int) → true = true → st y = true → T y = 1) := hcd
                have HM8 : Hid (∃ T1 st1, Fm w1 Kp sb tb yb k n (me : Int) R1 T1 st1 w8 ∧ (∀ y : Int, ((0 : Nat) : Int) ≤ y → T1 y = T y ∧ st1 y = st y) ∧ ∀ y : Int, 0 ≤ y → y < ((0 : Nat) : Int) → T1 y = 0) := ⟨T, st, hm, fun y _ => ⟨rfl, rfl⟩, fun y h0 h1 => by omega⟩
                clear ha8 hcd hm hxm kt8 zt8 t0 t1
                go_wp2_with fail
                go_loopw [27] (fun J wr => ∃ j : Nat, j ≤ n ∧ J = .int .i64 (j : Int) ∧ Hid (∃ T1 st1, Fm w1 Kp sb tb yb k n (me : Int) R1 T1 st1 wr ∧ (∀ y : Int, (j : Int) ≤ y → T1 y = T y ∧ st1 y = st y) ∧ ∀ y : Int, 0 ≤ y → y < (j : Int) → T1 y = 0)) (fun J _ => n - (intOf J).toNat)
                case atStart => exact ⟨0, by omega, rfl, HM8⟩
                case round =>
                  clear HM8
                  obtain ⟨j, hj, rfl, HM3⟩ := hrel
                  by_cases hjl : j < n
                  · have d12 : (j : Int) < (n : Int) := by omega
                    obtain ⟨T1, st1, hm, ha, hb⟩ := HM3.out
                    obtain ⟨kt, zt⟩ := hm.cellT (show j < 12 by omega)
                    obtain ⟨ky, zy⟩ := hm.cellY (show j < 12 by omega)
                    obtain ⟨eT, eS⟩ := ha (j : Int) (by omega)
                    have hcond := HCd.out (j : Int) (by omega) (by omega)
                    have hm2 := (hm.setT j 0).setY j true
                    have hne1 : ¬ tb = yb := hm.ne
                    have hne2 : ¬ yb = tb := fun e => hm.ne e.symm
                    have HM4 : Hid (∃ T1 st1, Fm w1 Kp sb tb yb k n (me : Int) R1 T1 st1 ((wr.setCell ⟨tb, j, none⟩ (.int .i64 0)).setCell ⟨yb, j, none⟩ (.bool true)) ∧ (∀ y : Int, ((j + 1 : Nat) : Int) ≤ y → T1 y = T y ∧ st1 y = st y) ∧ ∀ y : Int, 0 ≤ y → y < ((j + 1 : Nat) : Int) → T1 y = 0) :=
                      ⟨_, _, hm2, fun y hy => ⟨by rw [if_neg (by omega)]; exact (ha y (by omega)).1, by rw [if_neg (by omega)]; exact (ha y (by omega)).2⟩, fun y h0 h1 => by
                        by_cases e : y = (j : Int)
                        · rw [if_pos e]
                        · rw [if_neg e]
                          exact hb y h0 (by omega)⟩
                    rw [eT] at kt
                    rw [eS] at ky
                    have d10 : (j : Int) < 12 := by omega
                    clear hm ha hb eT eS hm2 HM3
                    generalize hTj : T (j : Int) = tv at *
                    generalize hSj : st (j : Int) = sv at *
                    clear hTj hSj
                    by_cases hjm : j = me
                    · clear hcond
                      subst hjm
                      have b2 : ((j : Int) == (j : Int)) = true := by simp
                      go_wp2_with fail
                      refine ⟨⟨j + 1, by omega, by first | rfl | (simp; done), HM4⟩, ?_⟩
                      simp [intOf]
                      omega
                    · have b2 : ((j : Int) == (me : Int)) = false := by simp; omega
                      cases sv
                      · clear hcond
                        go_wp2_with fail
                        refine ⟨⟨j + 1, by omega, by first | rfl | (simp; done), HM4⟩, ?_⟩
                        simp [intOf]
                        omega
                      · have htv := hcond (by omega) (by first | rfl | trivial) (by first | rfl | trivial)
                        subst htv
                        clear hcond
                        go_wp2_with fail
                        refine ⟨⟨j + 1, by omega, by first | rfl | (simp; done), HM4⟩, ?_⟩
                        simp [intOf]
                        omega
                  · have d12 : ¬ (j : Int) < (n : Int) := by omega
                    obtain ⟨T1, st1, hm, ha, hb⟩ := HM3.out
                    have HZ : Hid (∀ y : Int, 0 ≤ y → y < (n : Int) → T1 y = 0) := fun y h0 h1 => hb y h0 (by omega)
                    have HRo : Hid _ := hm.round
                    clear HM3 hm ha hb HCd
                    generalize wr = w9 at HRo ⊢
                    go_wp2_with fail
                    refine Calls.mono HRo.out ?_
                    rintro e w10 ⟨g, cc, m, hm1, rfl, c1, c2, kg, hm⟩
                    have b3 : ((n : Int) == (n : Int)) = true := by simp
                    have e3 : (n : Int) - 1 = (m : Int) := by omega
                    have d13 : (m : Int) < (n : Int) := by omega
                    have HMn : Hid (n = m + 1) := hm1
                    have HM4 : Hid (∃ st1, Fm w1 Kp sb tb yb k n (me : Int) R1 T1 st1 w10 ∧ ∀ y : Int, 0 ≤ y → y < ((0 : Nat) : Int) → st1 y = R1 y) := ⟨_, hm, fun y h0 h1 => by omega⟩
                    clear hm HRo hm1
                    go_wp2_with fail
                    go_loopw [29] (fun J wr => ∃ j : Nat, j ≤ n ∧ J = .int .i64 (j : Int) ∧ Hid (∃ st1, Fm w1 Kp sb tb yb k n (me : Int) R1 T1 st1 wr ∧ ∀ y : Int, 0 ≤ y → y < (j : Int) → st1 y = R1 y)) (fun J _ => n - (intOf J).toNat)
                    case atStart => exact ⟨0, by omega, rfl, HM4⟩
                    case round =>
                      clear HM4
                      obtain ⟨j, hj, rfl, HM4⟩ := hrel
                      by_cases hjl : j < n
                      · have d14 : (j : Int) < (n : Int) := by omega
                        have d15 : (j : Int) < 12 := by omega
                        obtain ⟨st1, hm, hs1⟩ := HM4.out
                        obtain ⟨ky, zy⟩ := hm.cellY (show j < 12 by omega)
                        have HM5 : Hid (∃ st1, Fm w1 Kp sb tb yb k n (me : Int) R1 T1 st1 (wr.setCell ⟨yb, j, none⟩ (.bool (R1 (j : Int)))) ∧ ∀ y : Int, 0 ≤ y → y < ((j + 1 : Nat) : Int) → st1 y = R1 y) := ⟨_, hm.setY j (R1 (j : Int)), fun y h0 h1 => by
                          by_cases e : y = (j : Int)
                          · rw [if_pos e, e]
                          · rw [if_neg e]
                            exact hs1 y h0 (by omega)⟩
                        have hry := HRy.out wr (i + 1) j (HU1.out.trans hm.up) (by omega)
                        rw [HR1.out] at hry
                        have HRj : Hid _ := hry
                        clear hm hs1 HM4 hry
                        generalize R1 (j : Int) = rj at *
                        have e5 : ((i : Int) + 1).toNat = i + 1 := by omega
                        have e6 : (0 : Int) ≤ (i : Int) + 1 := by omega
                        have e7 : (i : Int) + 1 ≤ (cap : Int) := by omega
                        have e8 : IntKind.i64.wrap ((i : Int) + 1) = (i : Int) + 1 := by rw [IntKind.wrap_i64]; omega
                        go_wp2_with fail
                        refine Calls.mono HRj.out ?_
                        rintro e w' ⟨rfl, hw⟩
                        obtain rfl := hw.symm
                        clear hw HRj
                        go_wp2_with fail
                        refine ⟨⟨j + 1, by omega, by first | rfl | (simp; done), HM5⟩, ?_⟩
                        simp [intOf]
                        omega
                      · have d14 : ¬ (j : Int) < (n : Int) := by omega
                        have HF : Hid (∃ l T st, Fc w1 K sb tb yb k n (me : Int) R1 0 true l T st wr) := by
                          obtain ⟨st1, hm, hs1⟩ := HM4.out
                          obtain ⟨l, hc⟩ := hm.fin HZ.out (fun y h0 h1 => hs1 y h0 (by omega))
                          exact ⟨_, _, _, HLs.out _ _ _ _ _ _ _ hc⟩
                        clear HM4
                        go_wp2_with fail
                        refine ⟨⟨i + 1, by omega, by first | rfl | (simp; done), 0, true, by first | rfl | (simp; done), by omega, rfl, by rw [HR1.out]; exact HF⟩, ?_⟩
                        simp [intOf]
                        omega
        · have d2 : ¬ (i : Int) < (len : Int) := by omega
          have H4 : Hid (Up W wr) := by
            obtain ⟨l, T, st, hc⟩ := HC.out
            exact HU1.out.trans hc.fa.sx.up
          clear HC
          go_wp2_with fail
          go_ret
          exact ⟨by first | rfl | (simp; done), H4.out⟩
end Go.Proofs.Ytakciepfckdpfaa
