/- PortsLoaded: the walk. -/
import Derived.Test.YteomldlmdpphaaaDoorPpX
namespace Go.Proofs.YteomldlmdpphaaaDoor
open Go.RowKit
set_option linter.unusedVariables false
theorem strNums_append (a c : List Int) : strOfNums (a ++ c) = strOfNums a ++ strOfNums c := by
  apply ByteArray.ext
  rw [ByteArray.data_append]
  simp [strOfNums]
theorem Bs.form {W : World} {v : Value} {xs : List Int} (h : Bs W v xs) : ∃ a c, v = .slice a xs.length c := by
  rcases h.at' with ⟨rfl, rfl⟩ | ⟨g, o, cap, rfl, _⟩
  · exact ⟨_, _, rfl⟩
  · exact ⟨_, _, rfl⟩
theorem TwoK.keepB {X : List (Nat × Obj)} {W0 W w' : World} {bp bq : Nat} {p q : Po} {zp zq zs : List Int} {v : Value} (h : TwoK X W0 bp p zp bq q zq W) (n : NewB W w' v zs) :
    ∃ X', TwoK X' W0 bp p zp bq q zq w' ∧ ∀ (w : World) (p2 q2 : Po) (z2 z3 : List Int), TwoK X' W0 bp p2 z2 bq q2 z3 w → Bs w v zs := by
  rcases n.form with hv | ⟨g, o, c, obj, hv, hg, ho⟩
  · refine ⟨X, h.more n.up, fun w p2 q2 z2 z3 _ => ?_⟩
    rcases n.bs.at' with hb | ⟨g, o, c, e, _⟩
    · exact ⟨Or.inl hb⟩
    · rw [hv] at e
      cases e
  · refine ⟨(g, obj) :: X, h.keep n.up g obj hg ho, fun w p2 q2 z2 z3 hw => ?_⟩
    have hk := hw.kept (List.mem_cons_self ..)
    rcases n.bs.at' with ⟨_, e⟩ | ⟨g', o', c', e, hc⟩
    · rw [hv] at e
      cases e
    · refine ⟨Or.inr ⟨g', o', c', e, fun j x hx => ?_⟩⟩
      rw [hv] at e
      injection e with e1
      injection e1 with e1
      injection e1 with e1
      subst e1
      exact (cell_block ho hk).trans (hc j x hx)
set_option maxRecDepth 100000 in
set_option maxHeartbeats 4000000 in
theorem loaded_walk {W : World} (hL : LaidP W) {aa : Option Addr} {ab ao len cap : Nat} {f : Nat → Nat → Int} (hA : Acts W aa ab ao len cap f) {ba : Option Addr} {bb bo blen bcap : Nat} {g : Nat → Nat → Int} (hB : Acts W ba bb bo blen bcap g) {ca : Option Addr} {cb co clen ccap : Nat} {k : Nat → Nat → Int} (hC : Acts W ca cb co clen ccap k) :
    Calls Tryd.prog 9 #[.slice aa len cap, .slice ba blen bcap, .slice ca clen ccap] W fun e w' => e = .returned (.bool true) ∧ Up W w' := by
  have HM : Hid _ := made_any hL hA
  have HM2 : Hid (∀ w, Up W w → Calls Tryd.prog 13 #[.slice ba blen bcap] w fun e w' => e = .returned (.pointer (some ⟨w.heap.size, 0, none⟩)) ∧ Pb w [] w.heap.size (madeP blen g).1 (madeP blen g).2 w') := fun w u => made_any (hL.up u) (hB.up u)
  have HC : Hid _ := hC
  have mk := actsP_ok f (newPo, []) newPo_ok newPo_ln (by decide) (min len 200)
  change (madeP len f).1.Ok ∧ (madeP len f).1.Ln ∧ (madeP len f).2.length ≤ 256 at mk
  generalize madeP len f = S at *
  obtain ⟨q, us⟩ := S
  generalize madeP blen g = S2 at *
  obtain ⟨r, rs⟩ := S2
  dsimp only at *
  have ok := mk.1
  have ln := mk.2.1
  have lu := mk.2.2
  have HRel : Hid _ := rel_acts k q ok ln us us [] lu ⟨[], by rw [List.append_nil, lastB_few us lu], by rw [lastB_few [] (by decide)]⟩ (min clen 200)
  clear mk
  clear hL hA hB hC
  generalize hB : W.heap.size = B at *
  go_enter Tryd.func9, Tryd.ntmps9
  go_wp2_with fail
  refine Calls.mono HM.out ?_
  rintro e w1 ⟨rfl, h1⟩
  have P1 : Hid _ := h1
  clear h1 HM
  go_wp2_with fail
  refine (HM2.out w1 P1.out.up).mono ?_
  rintro e w2 ⟨rfl, h2⟩
  have T2 : Hid _ := Two.made P1.out h2
  generalize w1.heap.size = D at *
  clear h2 P1 HM2
  go_wp2_with fail
  refine (T2.out.fst.state).mono ?_
  rintro e w3 ⟨rfl, B3, u3⟩
  have T3 : Hid _ := T2.out.more u3
  have HLd : Hid _ := T3.out.right (fun K k => k.load ok ln _ 0 19 (by decide) (by decide) B3)
  clear u3 B3 T2
  go_wp2_with fail
  refine Calls.mono HLd.out ?_
  rintro e w4 ⟨rfl, h4⟩
  have T4 : Hid _ := h4
  have HAl : Hid _ := Two.alikeU h4
  clear h4 HLd T3
  go_wp2_with fail
  refine Calls.mono HAl.out ?_
  rintro e w5 ⟨rfl, u5⟩
  have T5 : Hid _ := T4.out.more u5
  clear u5 HAl T4
  go_wp2_with fail
  refine (sent_new T5.out.fst).mono ?_
  rintro e w6 ⟨v6, rfl, n6⟩
  obtain ⟨X, k6, hkeep⟩ := (TwoK.of T5.out).keepB n6
  obtain ⟨va, vc, hv6⟩ := n6.bs.form
  have T6 : Hid _ := k6
  have HKp : Hid _ := hkeep
  subst hv6
  clear n6 k6 hkeep T5
  go_wp2_with fail
  refine (T6.out.left (fun K h => h.acts HC.out)).mono ?_
  rintro e w7 ⟨rfl, k7⟩
  have T7 : Hid _ := k7
  clear k7 T6
  go_wp2_with fail
  refine (T7.out.right (fun K h => h.acts HC.out)).mono ?_
  rintro e w8 ⟨rfl, k8⟩
  have RL := HRel.out
  clear HRel
  generalize actsP k (q, us) (min clen 200) = A1 at *
  generalize actsP k (q, []) (min clen 200) = A2 at *
  obtain ⟨p1, L1⟩ := A1
  obtain ⟨p2, L2⟩ := A2
  dsimp only at *
  obtain ⟨rfl, hrel⟩ := RL
  have re := rel_end us L1 L2 hrel lu
  have T8 : Hid _ := k8
  have HAl : Hid _ := Two.alikeU k8.two
  clear k8 T7 hrel
  go_wp2_with fail
  refine Calls.mono HAl.out ?_
  rintro e w9 ⟨rfl, u9⟩
  have T9 : Hid _ := T8.out.more u9
  clear u9 HAl T8
  go_wp2_with fail
  refine (sent_new T9.out.two.fst).mono ?_
  rintro e w10 ⟨v10, rfl, n10⟩
  have TA : Hid _ := T9.out.more n10.up
  obtain ⟨ta, tc, hv10⟩ := n10.bs.form
  have HB10 : Hid _ := n10.bs
  subst hv10
  clear n10 T9
  go_wp2_with fail
  refine (sent_new TA.out.two.symm.fst).mono ?_
  rintro e w11 ⟨v11, rfl, n11⟩
  have TB : Hid _ := TA.out.more n11.up
  obtain ⟨wa, wc, hv11⟩ := n11.bs.form
  have cv11 := n11.bs.conv
  have cv10 := (Bs.up HB10.out n11.up).conv
  subst hv11
  have cv6 := (HKp.out _ _ _ _ _ TB.out).conv
  have l1 := TB.out.lp
  have l2 := TB.out.lq
  clear n11 TA HB10 HKp
  have d1 : decide ((L1.length : Int) < (L2.length : Int)) = false := decide_eq_false (by have := re.1; omega)
  have nl : ¬ (L1.length < L2.length) := by have := re.1; omega
  by_cases hs : 256 < us.length + L2.length
  · have d2 : decide (256 < (us.length : Int) + (L2.length : Int)) = true := decide_eq_true (by omega)
    go_wp2_with fail
    go_ret
    exact ⟨rfl, TB.out.up⟩
  · have d2 : decide (256 < (us.length : Int) + (L2.length : Int)) = false := decide_eq_false (by omega)
    have HE : Hid _ := re.2 (by omega)
    have hbig : ¬ (9223372036854775807 < (strOfNums us).size + (strOfNums L2).size) := by rw [strOfNums_size, strOfNums_size]; omega
    clear re
    go_wp2_with fail
    go_ret
    exact ⟨retB (by rw [HE.out, strNums_append]; simp), TB.out.up⟩
end Go.Proofs.YteomldlmdpphaaaDoor
