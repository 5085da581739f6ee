/- Block: stores that are made by some writes. -/
import Derived.Test.YtplhhghipmffcaaBkJ
namespace Go.Proofs.Ytplhhghipmffcaa
open Go.RowKit
set_option linter.unusedVariables false
set_option linter.unusedSimpArgs false
variable {w w' W : World} {g n m o : Nat} {f f' : Nat → Int} {K K' : Nat → Prop} {sb : Nat} {A : Ad} {S : Sto}
/-- the sector that a number speaks of -/
def secN (n : Nat) (x : Int) : Nat := (pickI x n).toNat
theorem secN_lt (n : Nat) (x : Int) (h : 1 ≤ n) : secN n x < n := by
  have h1 := pickI_lo x n (by omega)
  have h2 := pickI_hi x n (by omega)
  unfold secN
  omega
theorem secN_is (n : Nat) (x : Int) (h : 1 ≤ n) : pickI x n = ((secN n x : Nat) : Int) := by
  have h1 := pickI_lo x n (by omega)
  unfold secN
  omega
/-- a store behind i writes -/
def Sto.many (S : Sto) (h : Nat → Int) : Nat → Sto
  | 0 => S
  | i + 1 => (S.many h i).wrote (secN S.n (h i)) (fillF (h i))
theorem Sto.many_n (S : Sto) (h : Nat → Int) : ∀ i, (S.many h i).n = S.n
  | 0 => rfl
  | i + 1 => S.many_n h i
theorem Sto.many_len (S : Sto) (h : Nat → Int) : ∀ i, (S.many h i).pend.length = S.pend.length + i
  | 0 => rfl
  | i + 1 => by
    show ((S.many h i).pend ++ [_]).length = _
    rw [List.length_append, S.many_len h i]
    rfl
theorem Sto.many_left (S : Sto) (h : Nat → Int) (hl : S.left = -1) : ∀ i, (S.many h i).left = -1
  | 0 => hl
  | i + 1 => by
    show (if (S.many h i).left = -1 then -1 else _) = _
    rw [if_pos (S.many_left h hl i)]
theorem Sto.many_safe (S : Sto) (h : Nat → Int) : ∀ i, (S.many h i).safe = S.safe
  | 0 => rfl
  | i + 1 => S.many_safe h i
/-- what made makes -/
def Sto.made (n sl : Nat) (hs : Nat → Int) (pl : Nat) (hp : Nat → Int) : Sto := (((Sto.fresh n (fun _ => 0)).many hs sl).synced).many hp pl
theorem Sto.made_n (n sl : Nat) (hs : Nat → Int) (pl : Nat) (hp : Nat → Int) : (Sto.made n sl hs pl hp).n = n := by
  unfold Sto.made
  rw [Sto.many_n]
  show ((Sto.fresh n (fun _ => 0)).many hs sl).n = n
  rw [Sto.many_n]
  rfl
set_option maxRecDepth 100000 in
set_option maxHeartbeats 4000000 in
theorem made_any {a1 a2 : Option Addr} {b1 o1 sl c1 b2 o2 pl c2 : Nat} {hs hp : Nat → Int} (hn1 : 1 ≤ n) (hn2 : n ≤ 4096) (D1 : Ints W a1 b1 o1 sl c1 hs) (D2 : Ints W a2 b2 o2 pl c2 hp) (hsl : sl ≤ 1000) (hpl : pl ≤ 1000) :
    Calls Try.prog 9 #[.int .i64 (n : Int), .slice a1 sl c1, .slice a2 pl c2] W fun e w' => ∃ sb, e = .returned (.tuple #[.pointer (some ⟨sb, 0, none⟩), .bool true]) ∧ Sx W (fun b => b < W.heap.size) sb (Sto.made n sl hs pl hp) w' := by
  have HD1 : Hid (∀ w', Up W w' → Ints w' a1 b1 o1 sl c1 hs) := fun w' u => D1.upI u
  have HD2 : Hid (∀ w', Up W w' → Ints w' a2 b2 o2 pl c2 hp) := fun w' u => D2.upI u
  have l1 := D1.lc
  have l2 : c1 ≤ 9223372036854775807 := by have := D1.cm; unfold maxLen at this; omega
  have l3 := D2.lc
  have l4 : c2 ≤ 9223372036854775807 := by have := D2.cm; unfold maxLen at this; omega
  have HNew : Hid (∀ w, w = W → Calls Try.prog 20 #[.int .i64 (n : Int)] w fun e w' => ∃ sb, e = .returned (.tuple #[.pointer (some ⟨sb, 0, none⟩), .int .i64 0]) ∧ Sx W (fun b => b < W.heap.size) sb (Sto.fresh n (fun _ => 0)) w') := fun w hw => by
    subst hw
    exact (new_ok (K := fun b => b < w.heap.size) hn1 hn2 (fun b hb => hb)).mono fun e w' ⟨sb, q1, q2, q3⟩ => ⟨sb, q1, q2, q3, fun b hb => hb⟩
  have HPk : Hid (∀ (x : Int) w, I64 x → Calls Try.prog 13 #[.int .i64 x, .int .i64 (n : Int)] w fun e w' => e = .returned (.int .i64 ((secN n x : Nat) : Int)) ∧ w' = w) := fun x w hx => by
    have := pick_any x n w hx (by omega) (by omega)
    rw [secN_is n x hn1] at this
    exact this
  have HFi : Hid (∀ (x : Int) w, I64 x → Calls Try.prog 11 #[.int .i64 x, .int .i64 0] w (Cop w 512 (fillF x))) := fun x w hx => filled_any (m := 512) hx (by decide) (by decide)
  have HWr : Hid (∀ sb S w0 w g cap (x : Int), Sx W (fun b => b < W.heap.size) sb S w0 → S.n = n → S.left = -1 → S.pend.length ≤ 100000 → Up w0 w → w0.heap.size ≤ g → By w g 512 (fillF x) → 512 ≤ cap → cap ≤ maxLen → Calls Try.prog 10 #[.pointer (some ⟨sb, 0, none⟩), .int .i64 ((secN n x : Nat) : Int), .slice (some ⟨g, 0, none⟩) 512 cap] w fun e w' => e = .returned (.int .i64 0) ∧ Sx W (fun b => b < W.heap.size) sb (S.wrote (secN n x) (fillF x)) w') := fun sb S w0 w g cap x h hSn hSl hSp u hg hb h1 h2 =>
    (h.write u hg hb h1 h2 (by rw [hSn]; exact secN_lt n x hn1) (by rw [hSl]; decide) (by omega)).mono fun e w' ⟨q1, q2, _⟩ => ⟨q1, q2⟩
  clear D1 D2
  have hnn : ((n : Int) == (n : Int)) = true := by simp
  go_enter Try.func9, Try.ntmps9
  go_wp2_with fail
  refine (HNew.out _ rfl).mono ?_
  rintro e w1 ⟨sb, rfl, h1⟩
  have H1 : Hid (Sx W (fun b => b < W.heap.size) sb (Sto.fresh n (fun _ => 0)) w1) := h1
  clear h1 HNew
  go_wp2_with fail
  refine (H1.out.sectors).mono ?_
  rintro e w' ⟨rfl, hw'⟩
  obtain rfl := hw'.symm
  rw [show ((Sto.fresh n (fun _ => 0)).n : Int) = (n : Int) from rfl]
  go_wp2_with fail
  have HS0 : Hid ((Sto.fresh n (fun _ => 0)).n = n ∧ (Sto.fresh n (fun _ => 0)).left = -1 ∧ (Sto.fresh n (fun _ => 0)).pend.length = 0) := ⟨rfl, rfl, rfl⟩
  go_loopw [10] (fun I wr => ∃ i : Nat, i ≤ sl ∧ I = .int .i64 i ∧ Hid (Sx W (fun b => b < W.heap.size) sb ((Sto.fresh n (fun _ => 0)).many hs i) wr)) (fun I _ => sl - (intOf I).toNat)
  case atStart => exact ⟨0, by omega, rfl, H1⟩
  case round =>
    clear H1
    obtain ⟨i, hi, rfl, M0⟩ := hrel
    by_cases hlt : i < sl
    · have e1 : (i : Int) < (sl : Int) := by omega
      have ee := HD1.out wr M0.out.up
      obtain rfl := ee.ad (by omega)
      have kc := ee.cell i hlt
      have ic := ee.i64 i
      have HS : Hid (∀ w, Up W w → w.cell? ⟨b1, o1 + i, none⟩ = some (.int .i64 (hs i))) := fun w u => (HD1.out w u).cell i hlt
      have HPx : Hid (∀ w : World, _) := fun w => HPk.out (hs i) w ic
      have HFx : Hid (∀ w : World, _) := fun w => HFi.out (hs i) w ic
      have HSn : Hid (((Sto.fresh n (fun _ => 0)).many hs i).n = n ∧ ((Sto.fresh n (fun _ => 0)).many hs i).left = -1 ∧ ((Sto.fresh n (fun _ => 0)).many hs i).pend.length ≤ 100000 ∧ (Sto.fresh n (fun _ => 0)).n = n) := ⟨by rw [Sto.many_n]; exact HS0.out.1, Sto.many_left _ _ HS0.out.2.1 i, by rw [Sto.many_len, HS0.out.2.2]; omega, HS0.out.1⟩
      have HWx : Hid (∀ w0 w g cap, Sx W (fun b => b < W.heap.size) sb ((Sto.fresh n (fun _ => 0)).many hs i) w0 → Up w0 w → w0.heap.size ≤ g → By w g 512 (fillF (hs i)) → 512 ≤ cap → cap ≤ maxLen → Calls Try.prog 10 #[.pointer (some ⟨sb, 0, none⟩), .int .i64 ((secN n (hs i) : Nat) : Int), .slice (some ⟨g, 0, none⟩) 512 cap] w fun e w' => e = .returned (.int .i64 0) ∧ Sx W (fun b => b < W.heap.size) sb ((Sto.fresh n (fun _ => 0)).many hs (i + 1)) w') := fun w0 w g cap h u hg hb h1 h2 => by
        have := HWr.out sb _ w0 w g cap (hs i) h HSn.out.1 HSn.out.2.1 HSn.out.2.2.1 u hg hb h1 h2
        refine this.mono fun e w' ⟨q1, q2⟩ => ⟨q1, ?_⟩
        show Sx W _ sb (((Sto.fresh n (fun _ => 0)).many hs i).wrote (secN (Sto.fresh n (fun _ => 0)).n (hs i)) (fillF (hs i))) w'
        rw [HSn.out.2.2.2]
        exact q2
      clear ee ic HPk HFi HWr HD1 HD2 HSn
      generalize hs i = X at *
      generalize secN n X = SN at *
      go_wp2_with fail
      refine wp_region_held_drew (S := fun w' => w'.cell? ⟨b1, o1 + i, none⟩ = some (.int .i64 X)) (by kernel_rfl) ?_ (fun hHeld => ?_)
      · exact HS.out _ M0.out.up.drew
      have M1 : Hid (Sx W (fun b => b < W.heap.size) sb _ (World.drew wr)) := M0.out.more (Up.refl wr).drew
      generalize World.drew wr = wd at M1 hHeld ⊢
      clear kc M0
      refine wpAnyH_take (i := 0) (v := ?_) (by simp only [List.getElem?_toArray, List.getElem?_cons_zero]; rfl) (by kernel_rfl) (by kernel_rfl) (by kernel_rfl) (by intro _ _ _ h; exact h) (Or.inl ⟨by rfl, ?_⟩) (by assumption) ?_
      rotate_left
      · (intro w hSw; (try dsimp only at hSw); go_simp <;> with_reducible rfl)
      try simp only [Act.put, List.setIfInBounds_toArray, List.set_cons_zero, List.set_cons_succ]
      refine wpAnyH_take (i := 1) (v := ?_) (by simp only [List.getElem?_toArray, List.getElem?_cons_succ, List.getElem?_cons_zero]; rfl) (by kernel_rfl) (by kernel_rfl) (by kernel_rfl) (by intro _ _ _ h; exact h) (Or.inl ⟨by rfl, ?_⟩) (by assumption) ?_
      rotate_left
      · (intro w hSw; (try dsimp only at hSw); go_simp <;> with_reducible rfl)
      try simp only [Act.put, List.setIfInBounds_toArray, List.set_cons_zero, List.set_cons_succ]
      refine wpAnyH_take (i := 2) (v := ?_) (by simp only [List.getElem?_toArray, List.getElem?_cons_succ, List.getElem?_cons_zero]; rfl) (by kernel_rfl) (by kernel_rfl) (by kernel_rfl) (by intro _ _ _ h; exact h) (Or.inl ⟨by rfl, ?_⟩) (by assumption) ?_
      rotate_left
      · (intro w hSw; (try dsimp only at hSw); go_simp <;> with_reducible rfl)
      try simp only [Act.put, List.setIfInBounds_toArray, List.set_cons_zero, List.set_cons_succ]
      refine wpAnyH_take (i := 3) (v := ?_) (by simp only [List.getElem?_toArray, List.getElem?_cons_succ, List.getElem?_cons_zero]; rfl) (by kernel_rfl) (by kernel_rfl) (by kernel_rfl) (by intro _ _ _ h; exact h) (Or.inl ⟨by rfl, ?_⟩) (by assumption) ?_
      rotate_left
      · (intro w hSw; (try dsimp only at hSw); go_simp <;> with_reducible rfl)
      try simp only [Act.put, List.setIfInBounds_toArray, List.set_cons_zero, List.set_cons_succ]
      refine wpAnyH_take (i := 4) (v := ?_) (by simp only [List.getElem?_toArray, List.getElem?_cons_succ, List.getElem?_cons_zero]; rfl) (by kernel_rfl) (by kernel_rfl) (by kernel_rfl) (by intro _ _ _ h; exact h) (Or.inl ⟨by rfl, ?_⟩) (by assumption) ?_
      rotate_left
      · (intro w hSw; (try dsimp only at hSw); go_simp <;> with_reducible rfl)
      try simp only [Act.put, List.setIfInBounds_toArray, List.set_cons_zero, List.set_cons_succ]
      refine wpAnyH_take (i := 5) (v := ?_) (by simp only [List.getElem?_toArray, List.getElem?_cons_succ, List.getElem?_cons_zero]; rfl) (by kernel_rfl) (by kernel_rfl) (by kernel_rfl) (by intro _ _ _ h; exact h) (Or.inl ⟨by rfl, ?_⟩) (by assumption) ?_
      rotate_left
      · (intro w hSw; (try dsimp only at hSw); go_simp <;> with_reducible rfl)
      try simp only [Act.put, List.setIfInBounds_toArray, List.set_cons_zero, List.set_cons_succ]
      refine wpAnyH_take (i := 7) (v := ?_) (by simp only [List.getElem?_toArray, List.getElem?_cons_succ, List.getElem?_cons_zero]; rfl) (by kernel_rfl) (by kernel_rfl) (by kernel_rfl) (by intro _ _ _ h; exact h) (Or.inl ⟨by rfl, ?_⟩) (by assumption) ?_
      rotate_left
      · (intro w hSw; (try dsimp only at hSw); go_simp <;> with_reducible rfl)
      try simp only [Act.put, List.setIfInBounds_toArray, List.set_cons_zero, List.set_cons_succ]
      refine wpAnyH_take (i := 8) (v := ?_) (by simp only [List.getElem?_toArray, List.getElem?_cons_succ, List.getElem?_cons_zero]; rfl) (by kernel_rfl) (by kernel_rfl) (by kernel_rfl) (by intro _ _ _ h; exact h) (Or.inl ⟨by rfl, ?_⟩) (by assumption) ?_
      rotate_left
      · (intro w hSw; (try dsimp only at hSw); go_simp <;> with_reducible rfl)
      try simp only [Act.put, List.setIfInBounds_toArray, List.set_cons_zero, List.set_cons_succ]
      refine wpAnyH_take (i := 9) (v := ?_) (by simp only [List.getElem?_toArray, List.getElem?_cons_succ, List.getElem?_cons_zero]; rfl) (by kernel_rfl) (by kernel_rfl) (by kernel_rfl) (by intro _ _ _ h; exact h) (Or.inl ⟨by rfl, ?_⟩) (by assumption) ?_
      rotate_left
      · (intro w hSw; (try dsimp only at hSw); go_simp <;> with_reducible rfl)
      try simp only [Act.put, List.setIfInBounds_toArray, List.set_cons_zero, List.set_cons_succ]
      refine wpAnyH_take (i := 10) (v := ?_) (by simp only [List.getElem?_toArray, List.getElem?_cons_succ, List.getElem?_cons_zero]; rfl) (by kernel_rfl) (by kernel_rfl) (by kernel_rfl) (by intro _ _ _ h; exact h) (Or.inl ⟨by rfl, ?_⟩) (by assumption) ?_
      rotate_left
      · (intro w hSw; (try dsimp only at hSw); go_simp <;> with_reducible rfl)
      try simp only [Act.put, List.setIfInBounds_toArray, List.set_cons_zero, List.set_cons_succ]
      refine wpAnyH_ready (rs := [6]) (by kernel_rfl) (by simp) ?_
      refine AllReadyH.cons (by simp only [List.getElem?_toArray, List.getElem?_cons_succ, List.getElem?_cons_zero]; rfl) (fun KK hK => ?_) AllReadyH.nil
      go_simp
      refine (HPx.out _).mono ?_
      rintro e w' ⟨rfl, hw'⟩
      obtain rfl := hw'.symm
      refine hK.out _ _ (HS.out _ M1.out.up) (fun hHeld => ?_)
      clear hK KK
      try simp only [Act.put, List.setIfInBounds_toArray, List.set_cons_zero, List.set_cons_succ]
      refine wpAnyH_ready (rs := [11]) (by kernel_rfl) (by simp) ?_
      refine AllReadyH.cons (by simp only [List.getElem?_toArray, List.getElem?_cons_succ, List.getElem?_cons_zero]; rfl) (fun KK hK => ?_) AllReadyH.nil
      go_simp
      refine (HFx.out _).mono ?_
      rintro e w4 ⟨g, gc, rfl, q1, q2, q3, q4, q5⟩
      have H4 : Hid (wd.heap.size ≤ g ∧ By w4 g 512 (fillF X) ∧ 512 ≤ gc ∧ gc ≤ maxLen ∧ Up wd w4) := ⟨q1, q2, q3, q4, q5⟩
      clear q1 q2 q3 q4 q5
      refine hK.out _ _ (HS.out _ (M1.out.up.trans H4.out.2.2.2.2)) (fun hHeld => ?_)
      clear hK KK
      try simp only [Act.put, List.setIfInBounds_toArray, List.set_cons_zero, List.set_cons_succ]
      refine wpAnyH_ready (rs := [12]) (by kernel_rfl) (by simp) ?_
      refine AllReadyH.cons (by simp only [List.getElem?_toArray, List.getElem?_cons_succ, List.getElem?_cons_zero]; rfl) (fun KK hK => ?_) AllReadyH.nil
      go_simp
      refine (HWx.out wd w4 g gc M1.out H4.out.2.2.2.2 H4.out.1 H4.out.2.1 H4.out.2.2.1 H4.out.2.2.2.1).mono ?_
      rintro e w5 ⟨rfl, h5⟩
      have H5 : Hid (Sx W (fun b => b < W.heap.size) sb ((Sto.fresh n (fun _ => 0)).many hs (i + 1)) w5) := h5
      clear h5
      refine hK.out _ _ (HS.out _ H5.out.up) (fun hHeld => ?_)
      clear hK KK
      try simp only [Act.put, List.setIfInBounds_toArray, List.set_cons_zero, List.set_cons_succ]
      refine wpAnyH_take (i := 13) (v := ?_) (by simp only [List.getElem?_toArray, List.getElem?_cons_succ, List.getElem?_cons_zero]; rfl) (by kernel_rfl) (by kernel_rfl) (by kernel_rfl) (by intro _ _ _ h; exact h) (Or.inl ⟨by rfl, ?_⟩) (by assumption) ?_
      rotate_left
      · (intro w hSw; (try dsimp only at hSw); go_simp <;> with_reducible rfl)
      try simp only [Act.put, List.setIfInBounds_toArray, List.set_cons_zero, List.set_cons_succ]
      refine wpAnyH_done (by kernel_rfl) ?_ _
      clear hHeld H4 M1 HWx HPx HFx HS
      go_wp2_with fail
      refine ⟨⟨i + 1, by omega, by first | rfl | (simp; done), H5⟩, ?_⟩
      simp [intOf]
      try omega
    · have e1 : ¬ (i : Int) < (sl : Int) := by omega
      obtain rfl : i = sl := by omega
      have HLn : Hid (((Sto.fresh n (fun _ => 0)).many hs i).pend.length ≤ 1099511627776) := by
        show ((Sto.fresh n (fun _ => 0)).many hs i).pend.length ≤ 1099511627776
        rw [Sto.many_len, HS0.out.2.2]
        omega
      have HSy : Hid _ := M0.out.sync HLn.out
      have HSS : Hid ((((Sto.fresh n (fun _ => 0)).many hs i).synced).n = n ∧ (((Sto.fresh n (fun _ => 0)).many hs i).synced).left = -1 ∧ (((Sto.fresh n (fun _ => 0)).many hs i).synced).pend.length = 0) := ⟨by show ((Sto.fresh n (fun _ => 0)).many hs i).n = n; rw [Sto.many_n]; rfl, by show ((Sto.fresh n (fun _ => 0)).many hs i).left = -1; exact Sto.many_left _ _ rfl i, rfl⟩
      have HMd : Hid (Sto.made n i hs pl hp = (((Sto.fresh n (fun _ => 0)).many hs i).synced).many hp pl) := rfl
      clear HLn HS0 HD1 M0
      generalize ((Sto.fresh n (fun _ => 0)).many hs i).synced = S2 at *
      go_wp2_with fail
      refine Calls.mono HSy.out ?_
      rintro e w2 ⟨rfl, h2, _⟩
      have H2 : Hid (Sx W (fun b => b < W.heap.size) sb S2 w2) := h2
      clear h2 HSy
      go_wp2_with fail
      refine (H2.out.pending).mono ?_
      rintro e w' ⟨rfl, hw'⟩
      obtain rfl := hw'.symm
      rw [HSS.out.2.2]
      go_wp2_with fail
      go_loopw [11] (fun I wr => ∃ j : Nat, j ≤ pl ∧ I = .int .i64 j ∧ Hid (Sx W (fun b => b < W.heap.size) sb (S2.many hp j) wr)) (fun I _ => pl - (intOf I).toNat)
      case atStart => exact ⟨0, by omega, rfl, H2⟩
      case round =>
        clear H2
        obtain ⟨j, hi, rfl, M0⟩ := hrel
        by_cases hlt : j < pl
        · have e1 : (j : Int) < (pl : Int) := by omega
          have ee := HD2.out wr M0.out.up
          obtain rfl := ee.ad (by omega)
          have kc := ee.cell j hlt
          have ic := ee.i64 j
          have HS : Hid (∀ w, Up W w → w.cell? ⟨b2, o2 + j, none⟩ = some (.int .i64 (hp j))) := fun w u => (HD2.out w u).cell j hlt
          have HPx : Hid (∀ w : World, _) := fun w => HPk.out (hp j) w ic
          have HFx : Hid (∀ w : World, _) := fun w => HFi.out (hp j) w ic
          have HSn : Hid ((S2.many hp j).n = n ∧ (S2.many hp j).left = -1 ∧ (S2.many hp j).pend.length ≤ 100000 ∧ S2.n = n) := ⟨by rw [Sto.many_n]; exact HSS.out.1, Sto.many_left _ _ HSS.out.2.1 j, by rw [Sto.many_len, HSS.out.2.2]; omega, HSS.out.1⟩
          have HWx : Hid (∀ w0 w g cap, Sx W (fun b => b < W.heap.size) sb (S2.many hp j) w0 → Up w0 w → w0.heap.size ≤ g → By w g 512 (fillF (hp j)) → 512 ≤ cap → cap ≤ maxLen → Calls Try.prog 10 #[.pointer (some ⟨sb, 0, none⟩), .int .i64 ((secN n (hp j) : Nat) : Int), .slice (some ⟨g, 0, none⟩) 512 cap] w fun e w' => e = .returned (.int .i64 0) ∧ Sx W (fun b => b < W.heap.size) sb (S2.many hp (j + 1)) w') := fun w0 w g cap h u hg hb h1 h2 => by
            have := HWr.out sb _ w0 w g cap (hp j) h HSn.out.1 HSn.out.2.1 HSn.out.2.2.1 u hg hb h1 h2
            refine this.mono fun e w' ⟨q1, q2⟩ => ⟨q1, ?_⟩
            show Sx W _ sb ((S2.many hp j).wrote (secN S2.n (hp j)) (fillF (hp j))) w'
            rw [HSn.out.2.2.2]
            exact q2
          clear ee ic HPk HFi HWr HD2 HSn
          generalize hp j = X at *
          generalize secN n X = SN at *
          go_wp2_with fail
          refine wp_region_held_drew (S := fun w' => w'.cell? ⟨b2, o2 + j, none⟩ = some (.int .i64 X)) (by kernel_rfl) ?_ (fun hHeld => ?_)
          · exact HS.out _ M0.out.up.drew
          have M1 : Hid (Sx W (fun b => b < W.heap.size) sb _ (World.drew wr)) := M0.out.more (Up.refl wr).drew
          generalize World.drew wr = wd at M1 hHeld ⊢
          clear kc M0
          refine wpAnyH_take (i := 0) (v := ?_) (by simp only [List.getElem?_toArray, List.getElem?_cons_zero]; rfl) (by kernel_rfl) (by kernel_rfl) (by kernel_rfl) (by intro _ _ _ h; exact h) (Or.inl ⟨by rfl, ?_⟩) (by assumption) ?_
          rotate_left
          · (intro w hSw; (try dsimp only at hSw); go_simp <;> with_reducible rfl)
          try simp only [Act.put, List.setIfInBounds_toArray, List.set_cons_zero, List.set_cons_succ]
          refine wpAnyH_take (i := 1) (v := ?_) (by simp only [List.getElem?_toArray, List.getElem?_cons_succ, List.getElem?_cons_zero]; rfl) (by kernel_rfl) (by kernel_rfl) (by kernel_rfl) (by intro _ _ _ h; exact h) (Or.inl ⟨by rfl, ?_⟩) (by assumption) ?_
          rotate_left
          · (intro w hSw; (try dsimp only at hSw); go_simp <;> with_reducible rfl)
          try simp only [Act.put, List.setIfInBounds_toArray, List.set_cons_zero, List.set_cons_succ]
          refine wpAnyH_take (i := 2) (v := ?_) (by simp only [List.getElem?_toArray, List.getElem?_cons_succ, List.getElem?_cons_zero]; rfl) (by kernel_rfl) (by kernel_rfl) (by kernel_rfl) (by intro _ _ _ h; exact h) (Or.inl ⟨by rfl, ?_⟩) (by assumption) ?_
          rotate_left
          · (intro w hSw; (try dsimp only at hSw); go_simp <;> with_reducible rfl)
          try simp only [Act.put, List.setIfInBounds_toArray, List.set_cons_zero, List.set_cons_succ]
          refine wpAnyH_take (i := 3) (v := ?_) (by simp only [List.getElem?_toArray, List.getElem?_cons_succ, List.getElem?_cons_zero]; rfl) (by kernel_rfl) (by kernel_rfl) (by kernel_rfl) (by intro _ _ _ h; exact h) (Or.inl ⟨by rfl, ?_⟩) (by assumption) ?_
          rotate_left
          · (intro w hSw; (try dsimp only at hSw); go_simp <;> with_reducible rfl)
          try simp only [Act.put, List.setIfInBounds_toArray, List.set_cons_zero, List.set_cons_succ]
          refine wpAnyH_take (i := 4) (v := ?_) (by simp only [List.getElem?_toArray, List.getElem?_cons_succ, List.getElem?_cons_zero]; rfl) (by kernel_rfl) (by kernel_rfl) (by kernel_rfl) (by intro _ _ _ h; exact h) (Or.inl ⟨by rfl, ?_⟩) (by assumption) ?_
          rotate_left
          · (intro w hSw; (try dsimp only at hSw); go_simp <;> with_reducible rfl)
          try simp only [Act.put, List.setIfInBounds_toArray, List.set_cons_zero, List.set_cons_succ]
          refine wpAnyH_take (i := 5) (v := ?_) (by simp only [List.getElem?_toArray, List.getElem?_cons_succ, List.getElem?_cons_zero]; rfl) (by kernel_rfl) (by kernel_rfl) (by kernel_rfl) (by intro _ _ _ h; exact h) (Or.inl ⟨by rfl, ?_⟩) (by assumption) ?_
          rotate_left
          · (intro w hSw; (try dsimp only at hSw); go_simp <;> with_reducible rfl)
          try simp only [Act.put, List.setIfInBounds_toArray, List.set_cons_zero, List.set_cons_succ]
          refine wpAnyH_take (i := 7) (v := ?_) (by simp only [List.getElem?_toArray, List.getElem?_cons_succ, List.getElem?_cons_zero]; rfl) (by kernel_rfl) (by kernel_rfl) (by kernel_rfl) (by intro _ _ _ h; exact h) (Or.inl ⟨by rfl, ?_⟩) (by assumption) ?_
          rotate_left
          · (intro w hSw; (try dsimp only at hSw); go_simp <;> with_reducible rfl)
          try simp only [Act.put, List.setIfInBounds_toArray, List.set_cons_zero, List.set_cons_succ]
          refine wpAnyH_take (i := 8) (v := ?_) (by simp only [List.getElem?_toArray, List.getElem?_cons_succ, List.getElem?_cons_zero]; rfl) (by kernel_rfl) (by kernel_rfl) (by kernel_rfl) (by intro _ _ _ h; exact h) (Or.inl ⟨by rfl, ?_⟩) (by assumption) ?_
          rotate_left
          · (intro w hSw; (try dsimp only at hSw); go_simp <;> with_reducible rfl)
          try simp only [Act.put, List.setIfInBounds_toArray, List.set_cons_zero, List.set_cons_succ]
          refine wpAnyH_take (i := 9) (v := ?_) (by simp only [List.getElem?_toArray, List.getElem?_cons_succ, List.getElem?_cons_zero]; rfl) (by kernel_rfl) (by kernel_rfl) (by kernel_rfl) (by intro _ _ _ h; exact h) (Or.inl ⟨by rfl, ?_⟩) (by assumption) ?_
          rotate_left
          · (intro w hSw; (try dsimp only at hSw); go_simp <;> with_reducible rfl)
          try simp only [Act.put, List.setIfInBounds_toArray, List.set_cons_zero, List.set_cons_succ]
          refine wpAnyH_take (i := 10) (v := ?_) (by simp only [List.getElem?_toArray, List.getElem?_cons_succ, List.getElem?_cons_zero]; rfl) (by kernel_rfl) (by kernel_rfl) (by kernel_rfl) (by intro _ _ _ h; exact h) (Or.inl ⟨by rfl, ?_⟩) (by assumption) ?_
          rotate_left
          · (intro w hSw; (try dsimp only at hSw); go_simp <;> with_reducible rfl)
          try simp only [Act.put, List.setIfInBounds_toArray, List.set_cons_zero, List.set_cons_succ]
          refine wpAnyH_ready (rs := [6]) (by kernel_rfl) (by simp) ?_
          refine AllReadyH.cons (by simp only [List.getElem?_toArray, List.getElem?_cons_succ, List.getElem?_cons_zero]; rfl) (fun KK hK => ?_) AllReadyH.nil
          go_simp
          refine (HPx.out _).mono ?_
          rintro e w' ⟨rfl, hw'⟩
          obtain rfl := hw'.symm
          refine hK.out _ _ (HS.out _ M1.out.up) (fun hHeld => ?_)
          clear hK KK
          try simp only [Act.put, List.setIfInBounds_toArray, List.set_cons_zero, List.set_cons_succ]
          refine wpAnyH_ready (rs := [11]) (by kernel_rfl) (by simp) ?_
          refine AllReadyH.cons (by simp only [List.getElem?_toArray, List.getElem?_cons_succ, List.getElem?_cons_zero]; rfl) (fun KK hK => ?_) AllReadyH.nil
          go_simp
          refine (HFx.out _).mono ?_
          rintro e w4 ⟨g, gc, rfl, q1, q2, q3, q4, q5⟩
          have H4 : Hid (wd.heap.size ≤ g ∧ By w4 g 512 (fillF X) ∧ 512 ≤ gc ∧ gc ≤ maxLen ∧ Up wd w4) := ⟨q1, q2, q3, q4, q5⟩
          clear q1 q2 q3 q4 q5
          refine hK.out _ _ (HS.out _ (M1.out.up.trans H4.out.2.2.2.2)) (fun hHeld => ?_)
          clear hK KK
          try simp only [Act.put, List.setIfInBounds_toArray, List.set_cons_zero, List.set_cons_succ]
          refine wpAnyH_ready (rs := [12]) (by kernel_rfl) (by simp) ?_
          refine AllReadyH.cons (by simp only [List.getElem?_toArray, List.getElem?_cons_succ, List.getElem?_cons_zero]; rfl) (fun KK hK => ?_) AllReadyH.nil
          go_simp
          refine (HWx.out wd w4 g gc M1.out H4.out.2.2.2.2 H4.out.1 H4.out.2.1 H4.out.2.2.1 H4.out.2.2.2.1).mono ?_
          rintro e w5 ⟨rfl, h5⟩
          have H5 : Hid (Sx W (fun b => b < W.heap.size) sb (S2.many hp (j + 1)) w5) := h5
          clear h5
          refine hK.out _ _ (HS.out _ H5.out.up) (fun hHeld => ?_)
          clear hK KK
          try simp only [Act.put, List.setIfInBounds_toArray, List.set_cons_zero, List.set_cons_succ]
          refine wpAnyH_take (i := 13) (v := ?_) (by simp only [List.getElem?_toArray, List.getElem?_cons_succ, List.getElem?_cons_zero]; rfl) (by kernel_rfl) (by kernel_rfl) (by kernel_rfl) (by intro _ _ _ h; exact h) (Or.inl ⟨by rfl, ?_⟩) (by assumption) ?_
          rotate_left
          · (intro w hSw; (try dsimp only at hSw); go_simp <;> with_reducible rfl)
          try simp only [Act.put, List.setIfInBounds_toArray, List.set_cons_zero, List.set_cons_succ]
          refine wpAnyH_done (by kernel_rfl) ?_ _
          clear hHeld H4 M1 HWx HPx HFx HS
          go_wp2_with fail
          refine ⟨⟨j + 1, by omega, by first | rfl | (simp; done), H5⟩, ?_⟩
          simp [intOf]
          try omega
        · have e1 : ¬ (j : Int) < (pl : Int) := by omega
          obtain rfl : j = pl := by omega
          have HLn : Hid ((S2.many hp j).pend.length = j) := by
            show (S2.many hp j).pend.length = j
            rw [Sto.many_len, HSS.out.2.2]
            omega
          have hii : ((j : Int) == (j : Int)) = true := by simp
          clear HD2 HPk HFi HWr
          go_wp2_with fail
          refine (M0.out.pending).mono ?_
          rintro e w' ⟨rfl, hw'⟩
          obtain rfl := hw'.symm
          rw [HLn.out]
          go_wp2_with fail
          go_ret2
          exact ⟨sb, by first | rfl | (simp; done), by rw [HMd.out]; exact M0.out⟩
end Go.Proofs.Ytplhhghipmffcaa
