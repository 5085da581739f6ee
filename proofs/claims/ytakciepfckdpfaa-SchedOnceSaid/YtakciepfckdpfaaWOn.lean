/- Proved: the walk of SchedOnce. -/
import Derived.Test.YtakciepfckdpfaaScP
namespace Go.Proofs.Ytakciepfckdpfaa
open Go.RowKit
set_option linter.unusedVariables false
set_option linter.unusedSimpArgs false
variable {W : World}
theorem arr8 {j : Nat} (hj : j < 8) : (#[Value.int .i64 0, .int .i64 0, .int .i64 0, .int .i64 0, .int .i64 0, .int .i64 0, .int .i64 0, .int .i64 0] : Array Value)[j]? = some (.int .i64 0) := by
  have : j = 0 ∨ j = 1 ∨ j = 2 ∨ j = 3 ∨ j = 4 ∨ j = 5 ∨ j = 6 ∨ j = 7 := by omega
  rcases this with rfl | rfl | rfl | rfl | rfl | rfl | rfl | rfl <;> rfl
/-- a sched and the law's own list of who has a turn where -/
structure Oc (W : World) (K : Nat → Prop) (sb ob k n : Nat) (S : Sd) (on : Nat → Int) (w : World) : Prop where
  sx : Sx W K sb S w
  ko : K ob
  new : W.heap.size ≤ ob
  arr : Av w ob 27 8 (fun j => .int .i64 (on j))
  inv : Oi k n S on
theorem Oc.more {K : Nat → Prop} {sb ob k n : Nat} {S : Sd} {on : Nat → Int} {w w' : World} (h : Oc W K sb ob k n S on w) (u : Up w w') : Oc W K sb ob k n S on w' := ⟨h.sx.more u, h.ko, h.new, h.arr.up u, h.inv⟩
theorem Oc.fk {K : Nat → Prop} {sb ob k n : Nat} {S S' : Sd} {on : Nat → Int} {w w' : World} (h : Oc W K sb ob k n S on w) (h2 : Sx W K sb S' w') (f : FK K w w') : Av w' ob 27 8 (fun j => .int .i64 (on j)) := h.arr.of_block (f.block ob h.arr.lt h.ko)
theorem Oc.set {K : Nat → Prop} {sb ob k n i : Nat} {S : Sd} {on : Nat → Int} {w : World} {x : Int} (h1 : Sx W K sb S w) (ko : K ob) (new : W.heap.size ≤ ob) (arr : Av w ob 27 8 (fun j => .int .i64 (on j))) (inv : Oi k n S (fun j => if j = i then x else on j)) : Oc W K sb ob k n S (fun j => if j = i then x else on j) (w.setCell ⟨ob, i, none⟩ (.int .i64 x)) :=
  ⟨h1.fr ((Fr.refl ob w).setCell) ko new, ko, new, (arr.set i (.int .i64 x)).congr (fun j hj => by by_cases e : j = i <;> simp [e]), inv⟩
theorem Oc.begin {K : Nat → Prop} {sb ob k n s : Nat} {S : Sd} {on : Nat → Int} {w : World} (h : Oc W K sb ob k n S on w) (hk8 : k ≤ 8) (hs : s < k) : Calls Try.prog 11 #[.pointer (some ⟨sb, 0, none⟩), .int .i64 (s : Int)] w fun e w' => (∃ x : Int, e = .returned (.tuple #[.int .i64 x, .int .i64 0]) ∧ 0 ≤ x ∧ x < (n : Int) ∧ Av w' ob 27 8 (fun j => .int .i64 (on j)) ∧ on s = -1 ∧ (∀ j, j < k → on j ≠ x) ∧ ∃ S', Oc W K sb ob k n S' (fun j => if j = s then x else on j) (w'.setCell ⟨ob, s, none⟩ (.int .i64 x))) ∨ (∃ x c : Int, c ≠ 0 ∧ e = .returned (.tuple #[.int .i64 x, .int .i64 c]) ∧ Oc W K sb ob k n S on w') := by
  refine (h.sx.begin (s := (s : Int))).mono fun e w' ⟨q1, q2, q3⟩ => ?_
  have ha := h.fk q2 q3
  by_cases h0 : S.begE (s : Int) = 0
  · obtain ⟨⟨t1, t2⟩, t3, t4, t5⟩ := h.inv.begin h0
    rw [h0] at q1
    exact Or.inl ⟨_, q1, t1, t2, ha, t3, t4, _, Oc.set q2 h.ko h.new ha t5⟩
  · rw [Oi.begin_no h0] at q2
    exact Or.inr ⟨_, _, h0, q1, q2, h.ko, h.new, ha, h.inv⟩
theorem Oc.done {K : Nat → Prop} {sb ob k n s : Nat} {S : Sd} {on : Nat → Int} {w : World} (h : Oc W K sb ob k n S on w) (hs : s < k) : Calls Try.prog 12 #[.pointer (some ⟨sb, 0, none⟩), .int .i64 (s : Int)] w fun e w' => ((e = .returned (.tuple #[.int .i64 (on s), .int .i64 0]) ∧ 0 ≤ on s) ∨ (∃ x, e = .returned (.tuple #[.int .i64 x, .int .i64 131]) ∧ on s = -1)) ∧ Av w' ob 27 8 (fun j => .int .i64 (on j)) ∧ ∃ S', Oc W K sb ob k n S' (fun j => if j = s then -1 else on j) (w'.setCell ⟨ob, s, none⟩ (.int .i64 (-1))) := by
  refine (h.sx.done (s := (s : Int))).mono fun e w' ⟨q1, q2, q3⟩ => ?_
  have ha := h.fk q2 q3
  obtain ⟨t1, t2⟩ := h.inv.done hs
  refine ⟨?_, ha, _, Oc.set q2 h.ko h.new ha t2⟩
  rcases t1 with ⟨c1, c2, c3⟩ | ⟨c1, c2⟩
  · rw [c1, c3] at q1
    exact Or.inl ⟨q1, c2⟩
  · rw [c1] at q1
    exact Or.inr ⟨_, q1, c2⟩
theorem Oc.ready {K : Nat → Prop} {sb ob k n s : Nat} {S : Sd} {on : Nat → Int} {w : World} {b : Bool} (h : Oc W K sb ob k n S on w) (hs : s < n) : Calls Try.prog 13 #[.pointer (some ⟨sb, 0, none⟩), .int .i64 (s : Int), .bool b] w fun e w' => e = .returned (.int .i64 0) ∧ ∃ S', Oc W K sb ob k n S' on w' := by
  refine (h.sx.ready (id := (s : Int)) (b := b)).mono fun e w' ⟨q1, q2, q3⟩ => ?_
  obtain ⟨t1, t2⟩ := h.inv.ready (id := (s : Int)) (c := b) (by omega) (by omega)
  rw [t1] at q1
  exact ⟨q1, _, q2, h.ko, h.new, h.fk q2 q3, t2⟩
set_option maxRecDepth 100000 in
set_option maxHeartbeats 1000000 in
theorem once_walk {a0 a1 : Int} {aa : Option Addr} {ab ao len cap : Nat} {f : Nat → Nat → Int} (h0 : I64 a0) (h1 : I64 a1) (D : Act2s W aa ab ao len cap f) :
    Calls Try.prog 3 #[.int .i64 a0, .int .i64 a1, .slice aa len cap] W fun e w' => e = .returned (.bool true) ∧ Up W w' := by
  have l1 := D.lc
  have l2 : cap ≤ 9223372036854775807 := by have := D.cm; unfold maxLen at this; omega
  obtain ⟨k0, hk0, HP8⟩ := pick_nat a0 8 h0 (by decide) (by decide)
  obtain ⟨n0, hn0, HP12⟩ := pick_nat a1 12 h1 (by decide) (by decide)
  have HB : Hid (Calls Try.prog 8 #[] W fun e w' => e = .returned (.bool true) ∧ Up W w') := begun_any W
  have H8 : Hid (∀ w, Calls Try.prog 9 #[.int .i64 a0, .int .i64 8] w fun e w' => e = .returned (.int .i64 (k0 : Int)) ∧ w' = w) := HP8
  have H12 : Hid (∀ w, Calls Try.prog 9 #[.int .i64 a1, .int .i64 12] w fun e w' => e = .returned (.int .i64 (n0 : Int)) ∧ w' = w) := HP12
  obtain ⟨k, hk⟩ : ∃ k, k = 1 + k0 := ⟨_, rfl⟩
  obtain ⟨n, hn⟩ : ∃ n, n = 1 + n0 := ⟨_, rfl⟩
  have ek : (1 : Int) + (k0 : Int) = (k : Int) := by omega
  have en : (1 : Int) + (n0 : Int) = (n : Int) := by omega
  have HM : Hid (∀ w, Calls Try.prog 10 #[.int .i64 (k : Int), .int .i64 (n : Int)] w fun e w' => ∃ sb, e = .returned (.pointer (some ⟨sb, 0, none⟩)) ∧ Sx w (fun b => b < w.heap.size) sb ⟨allR n, offs k⟩ w') := fun w => made_any w (by omega) (by omega) (by omega)
  have HI : Hid (∀ w i, Up W w → i < len → aa = some ⟨ab, ao, none⟩ ∧ w.rangeAt ab (ao + i * 2) [.int .i64 (f i 0), .int .i64 (f i 1)] ∧ ∃ s t c : Nat, s < k ∧ t < n ∧ c < 8 ∧ (∀ w, Calls Try.prog 9 #[.int .i64 (f i 1), .int .i64 (k : Int)] w fun e w' => e = .returned (.int .i64 (s : Int)) ∧ w' = w) ∧ (∀ w, Calls Try.prog 9 #[.int .i64 (f i 1), .int .i64 (n : Int)] w fun e w' => e = .returned (.int .i64 (t : Int)) ∧ w' = w) ∧ (∀ w, Calls Try.prog 9 #[.int .i64 (f i 0), .int .i64 8] w fun e w' => e = .returned (.int .i64 (c : Int)) ∧ w' = w)) := fun w i u hi => by
    obtain ⟨s, hs, p1⟩ := pick_nat (f i 1) k (D.i64 i 1) (by omega) (by omega)
    obtain ⟨t, ht, p2⟩ := pick_nat (f i 1) n (D.i64 i 1) (by omega) (by omega)
    obtain ⟨c, hc, p3⟩ := pick_nat (f i 0) 8 (D.i64 i 0) (by omega) (by omega)
    exact ⟨D.ad (by omega), D.range u hi, s, t, c, hs, ht, hc, p1, p2, p3⟩
  have hk8 : k ≤ 8 := by omega
  have hn12 : n ≤ 12 := by omega
  clear hk hn D hk0 hn0 HP8 HP12 h0 h1
  go_enter Try.func3, Try.ntmps3
  go_wp2_with fail
  refine Calls.mono HB.out ?_
  rintro e w1 ⟨rfl, u1⟩
  have HU1 : Hid (Up W w1) := u1
  clear u1 HB
  go_wp2_with fail
  refine (H8.out _).mono ?_
  rintro e w' ⟨rfl, hw⟩
  obtain rfl := hw.symm
  clear hw
  go_wp2_with fail
  refine (H12.out _).mono ?_
  rintro e w' ⟨rfl, hw⟩
  obtain rfl := hw.symm
  clear hw H8 H12
  go_wp2_with fail
  refine (HM.out _).mono ?_
  rintro e w2 ⟨sb, rfl, h⟩
  have HS : Hid _ := h
  clear h HM
  go_wp2_with fail
  have hA1 : (w2.alloc (Obj.cells #[.int .i64 0, .int .i64 0, .int .i64 0, .int .i64 0, .int .i64 0, .int .i64 0, .int .i64 0, .int .i64 0] 27)).heap[w2.heap.size]? = some (.cells #[.int .i64 0, .int .i64 0, .int .i64 0, .int .i64 0, .int .i64 0, .int .i64 0, .int .i64 0, .int .i64 0] 27 (0, 0)) := heap_alloc_new w2 _
  have hA2 : Up w2 (w2.alloc (Obj.cells #[.int .i64 0, .int .i64 0, .int .i64 0, .int .i64 0, .int .i64 0, .int .i64 0, .int .i64 0, .int .i64 0] 27)) := (Up.refl w2).alloc _
  have hA3 : w2.heap.size < (w2.alloc (Obj.cells #[.int .i64 0, .int .i64 0, .int .i64 0, .int .i64 0, .int .i64 0, .int .i64 0, .int .i64 0, .int .i64 0] 27)).heap.size := by simp
  generalize World.alloc w2 _ = w3 at hA1 hA2 hA3 ⊢
  obtain ⟨ob, hob⟩ : ∃ ob, ob = w2.heap.size := ⟨_, rfl⟩
  rw [← hob] at hA1 hA3 ⊢
  obtain ⟨K, hK⟩ : ∃ K : Nat → Prop, K = fun b => b < w1.heap.size ∨ b = ob := ⟨_, rfl⟩
  have hKo : K ob := by rw [hK]; exact Or.inr rfl
  have hnew : w1.heap.size ≤ ob := by rw [hob]; exact HS.out.up.size
  have hs3 : Sx w1 K sb ⟨allR n, offs k⟩ w3 := by
    rw [hK]
    exact HS.out.let' hA2 (fun b hb => hb.elim Or.inl (fun e => Or.inr ⟨by omega, by omega⟩)) (fun b hb => Or.inl hb)
  have HS3 : Hid (∃ on : Nat → Int, Sx w1 K sb ⟨allR n, offs k⟩ w3 ∧ Av w3 ob 27 8 (fun j => .int .i64 (on j)) ∧ ∀ j, j < 0 → on j = -1) := ⟨fun _ => 0, hs3, ⟨_, hA1, rfl, fun j hj => arr8 hj⟩, fun j hj => by omega⟩
  have HKo : Hid (K ob ∧ w1.heap.size ≤ ob) := ⟨hKo, hnew⟩
  clear HS hA1 hA2 hA3 hob hK hKo hnew hs3
  go_loopw [12] (fun I wr => ∃ i : Nat, i ≤ k ∧ I = .int .i64 (i : Int) ∧ Hid (∃ on : Nat → Int, Sx w1 K sb ⟨allR n, offs k⟩ wr ∧ Av wr ob 27 8 (fun j => .int .i64 (on j)) ∧ ∀ j, j < i → on j = -1)) (fun I _ => k - (intOf I).toNat)
  case atStart => exact ⟨0, by omega, rfl, HS3⟩
  case round =>
    clear HS3
    obtain ⟨i, hi, rfl, HS3⟩ := hrel
    by_cases hlt : i < k
    · have d1 : (i : Int) < (k : Int) := by omega
      have d2 : (i : Int) < 8 := by omega
      obtain ⟨on, hx, ha, hon⟩ := HS3.out
      have kc := ha.cell (show i < 8 by omega)
      have kf := ha.fz i
      have H4 : Hid (∃ on : Nat → Int, Sx w1 K sb ⟨allR n, offs k⟩ (wr.setCell ⟨ob, i, none⟩ (.int .i64 (-1))) ∧ Av (wr.setCell ⟨ob, i, none⟩ (.int .i64 (-1))) ob 27 8 (fun j => .int .i64 (on j)) ∧ ∀ j, j < i + 1 → on j = -1) :=
        ⟨fun j => if j = i then -1 else on j, hx.fr ((Fr.refl ob wr).setCell) HKo.out.1 HKo.out.2, (ha.set i (.int .i64 (-1))).congr (fun j hj => by by_cases e : j = i <;> simp [e]), fun j hj => by by_cases e : j = i; simp [e]; simp [e]; exact hon j (by omega)⟩
      clear HS3 hx ha hon
      go_wp2_with fail
      refine ⟨⟨i + 1, by omega, by first | rfl | (simp; done), H4⟩, ?_⟩
      simp [intOf]
      omega
    · have d1 : ¬ (i : Int) < (k : Int) := by omega
      have HC : Hid (∃ S on, Oc w1 K sb ob k n S on wr) := by
        obtain ⟨on, hx, ha, hon⟩ := HS3.out
        refine ⟨_, on, hx, HKo.out.1, HKo.out.2, ha, ?_⟩
        have h9 := Oi.start (k := k) (n := n)
        exact ⟨h9.len, fun j t ht => by have := h9.slot j t ht; have hj := (List.getElem?_eq_some_iff.1 ht).1; rw [h9.len] at hj; rw [hon j (by omega)]; exact this, h9.lo, h9.all⟩
      clear HS3
      generalize wr = w5 at HC ⊢
      go_wp2_with fail
      go_loopw [13] (fun I wr => ∃ i : Nat, i ≤ len ∧ I = .int .i64 (i : Int) ∧ Hid (∃ S on, Oc w1 K sb ob k n S on wr)) (fun I _ => len - (intOf I).toNat)
      case atStart => exact ⟨0, by omega, rfl, HC⟩
      case round =>
        clear HC
        obtain ⟨i, hi, rfl, HC⟩ := hrel
        by_cases hlt : i < len
        · have d2 : (i : Int) < (len : Int) := by omega
          obtain ⟨S, on, hc⟩ := HC.out
          obtain ⟨rfl, hr, s, t, c, hs, ht, hcc, p1, p2, p3⟩ := HI.out wr i (HU1.out.trans hc.sx.up) hlt
          have HR : Hid _ := hr
          have P1 : Hid _ := p1
          have P2 : Hid _ := p2
          have P3 : Hid _ := p3
          have HO : Hid _ := hc
          clear hr p1 p2 p3 hc HC HI
          generalize f i 0 = x0 at *
          generalize f i 1 = x1 at *
          go_wp2_with (refine wpList_load_mid rfl 29 _ rfl ab (ao + i * 2) rfl [.int .i64 x0, .int .i64 x1] _ HR.out Try.underlying29 rfl (by kernel_rfl) ?_)
          have HO2 : Hid (Oc w1 K sb ob k n S on (wr.alloc (Obj.cells #[.int .i64 x0, .int .i64 x1] 29)) ∧ (wr.alloc (Obj.cells #[.int .i64 x0, .int .i64 x1] 29)).cell? ⟨wr.heap.size, 0, none⟩ = some (.int .i64 x0) ∧ (wr.alloc (Obj.cells #[.int .i64 x0, .int .i64 x1] 29)).cell? ⟨wr.heap.size, 1, none⟩ = some (.int .i64 x1)) := ⟨HO.out.more ((Up.refl wr).alloc _), heap_cell (heap_alloc_new wr _) rfl, heap_cell (heap_alloc_new wr _) rfl⟩
          clear HO HR
          generalize World.alloc wr _ = w6 at HO2 ⊢
          generalize wr.heap.size = pa at HO2 ⊢
          obtain ⟨ho6, ka, kb⟩ := HO2.out
          have HO : Hid _ := ho6
          clear HO2 ho6
          refine (P1.out _).mono ?_
          rintro e w' ⟨rfl, hw⟩
          obtain rfl := hw.symm
          clear hw
          go_wp2_with fail
          refine (P2.out _).mono ?_
          rintro e w' ⟨rfl, hw⟩
          obtain rfl := hw.symm
          clear hw
          go_wp2_with fail
          refine (P3.out _).mono ?_
          rintro e w' ⟨rfl, hw⟩
          obtain rfl := hw.symm
          clear hw P1 P2 P3
          by_cases h4 : c < 4
          · have d4 : (c : Int) < 4 := by omega
            have HB : Hid _ := HO.out.begin hk8 hs
            clear HO
            go_wp2_with fail
            refine Calls.mono HB.out ?_
            rintro e w7 h
            clear HB
            rcases h with ⟨x, rfl, x0, x1, ha, hons, hne, S', hc⟩ | ⟨x, z, hz, rfl, hc⟩
            · have HA : Hid _ := ha
              have HN : Hid _ := hne
              have HC' : Hid _ := hc
              have ks := ha.cell (show s < 8 by omega)
              rw [hons] at ks
              have kf := ha.fz s
              have d5 : (s : Int) < 8 := by omega
              clear ha hne hc hons ka kb
              go_wp2_with fail
              go_loop [20] (fun J => ∃ j : Nat, j ≤ k ∧ J = .int .i64 (j : Int)) (fun J => k - (intOf J).toNat)
              case atStart => exact ⟨0, by omega, rfl⟩
              case round =>
                obtain ⟨j, hj, rfl⟩ := hrel
                by_cases hjl : j < k
                · have d6 : (j : Int) < (k : Int) := by omega
                  have d7 : (j : Int) < 8 := by omega
                  have kj := HA.out.cell (show j < 8 by omega)
                  have b1 : (on j == x) = false := by simpa using HN.out j hjl
                  clear ks
                  go_wp2_with fail
                  refine ⟨⟨j + 1, by omega, by first | rfl | (simp; done)⟩, ?_⟩
                  simp [intOf]
                  omega
                · have d6 : ¬ (j : Int) < (k : Int) := by omega
                  have d8 : ¬ x < 0 := by omega
                  have d9 : ¬ (n : Int) ≤ x := by omega
                  clear HA HN
                  go_wp2_with fail
                  refine ⟨⟨i + 1, by omega, by first | rfl | (simp; done), ⟨_, _, HC'.out⟩⟩, ?_⟩
                  simp [intOf]
                  omega
            · have HC' : Hid _ := hc
              have b1 : (z == 0) = false := by simpa using hz
              clear hc hz ka kb
              go_wp2_with fail
              refine ⟨⟨i + 1, by omega, by first | rfl | (simp; done), ⟨_, _, HC'.out⟩⟩, ?_⟩
              simp [intOf]
              omega
          · have d4 : ¬ (c : Int) < 4 := by omega
            by_cases h6 : c < 6
            · have d6 : (c : Int) < 6 := by omega
              have HB : Hid _ := HO.out.done hs
              clear HO
              have d5 : (s : Int) < 8 := by omega
              go_wp2_with fail
              refine Calls.mono HB.out ?_
              rintro e w7 ⟨h, ha, S', hc⟩
              clear HB
              have HC' : Hid _ := hc
              have ks := ha.cell (show s < 8 by omega)
              have kf := ha.fz s
              clear ha hc ka kb
              rcases h with ⟨rfl, h9⟩ | ⟨x, rfl, h9⟩
              · generalize on s = y at *
                go_wp2_with fail
                refine ⟨⟨i + 1, by omega, by first | rfl | (simp; done), ⟨_, _, HC'.out⟩⟩, ?_⟩
                simp [intOf]
                omega
              · rw [h9] at ks
                clear h9
                go_wp2_with fail
                refine ⟨⟨i + 1, by omega, by first | rfl | (simp; done), ⟨_, _, HC'.out⟩⟩, ?_⟩
                simp [intOf]
                omega
            · have d6 : ¬ (c : Int) < 6 := by omega
              have HB : Hid (∀ b, Calls Try.prog 13 #[.pointer (some ⟨sb, 0, none⟩), .int .i64 (t : Int), .bool b] w6 fun e w' => e = .returned (.int .i64 0) ∧ ∃ S', Oc w1 K sb ob k n S' on w') := fun b => HO.out.ready ht
              clear HO
              go_wp2_with fail
              refine (HB.out _).mono ?_
              rintro e w7 ⟨rfl, S', hc⟩
              have HC' : Hid _ := hc
              clear hc HB ka kb
              go_wp2_with fail
              refine ⟨⟨i + 1, by omega, by first | rfl | (simp; done), ⟨_, _, HC'.out⟩⟩, ?_⟩
              simp [intOf]
              omega
        · have d2 : ¬ (i : Int) < (len : Int) := by omega
          have H4 : Hid (Up W wr) := by
            obtain ⟨S, on, hc⟩ := HC.out
            exact HU1.out.trans hc.sx.up
          clear HC
          go_wp2_with fail
          go_ret
          exact ⟨by first | rfl | (simp; done), H4.out⟩
end Go.Proofs.Ytakciepfckdpfaa
