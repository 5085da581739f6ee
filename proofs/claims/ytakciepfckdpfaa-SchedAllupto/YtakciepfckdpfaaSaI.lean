/- Sched: the walk of the script. -/
import Derived.Test.YtakciepfckdpfaaSaH
import Derived.Laws.AppendOwnNone
namespace Go.Proofs.Ytakciepfckdpfaa
open Go.RowKit
set_option linter.unusedVariables false
set_option linter.unusedSimpArgs false
variable {w w' W W0 : World} {ρ : Nat → Nat} {wb : Nat} {P : Pos} {ps : List (Nat × Nat)} {S : List Sd} {F : List (Nat × List Int)} {A : List Value} {G : List (List Int)} {Lv : List Value} {Lm : List Int}
/-- cells of steps -/
structure Opl (xs : List Value) (n : Nat) : Prop where
  len : xs.length = n * 4
  one : ∀ u ∈ xs, u.oneCell' = true
  at' : ∀ i, i < n → ∃ kd pp nn rr, I64 pp ∧ I64 nn ∧ xs[i * 4]? = some (.int .i64 kd) ∧ xs[i * 4 + 1]? = some (.int .i64 pp) ∧ xs[i * 4 + 2]? = some (.int .i64 nn) ∧ xs[i * 4 + 3]? = some (.bool rr)
theorem Opl.nil : Opl [] 0 := ⟨rfl, (fun u h => (by cases h)), (fun i hi => (by omega))⟩
theorem Opl.one' {kd pp nn : Int} {rr : Bool} (h1 : I64 pp) (h2 : I64 nn) : Opl (opv kd pp nn rr) 1 :=
  ⟨rfl, fun u h => by unfold opv at h; simp at h; rcases h with rfl | rfl | rfl | rfl <;> rfl, fun i hi => by
    have : i = 0 := by omega
    subst this
    exact ⟨kd, pp, nn, rr, h1, h2, rfl, rfl, rfl, rfl⟩⟩
theorem Opl.app {xs ys : List Value} {n m : Nat} (h : Opl xs n) (k : Opl ys m) : Opl (xs ++ ys) (n + m) := by
  refine ⟨by rw [List.length_append, h.len, k.len]; omega, fun u hu => ?_, fun i hi => ?_⟩
  · rcases List.mem_append.1 hu with hu | hu
    · exact h.one u hu
    · exact k.one u hu
  · have hl := h.len
    rcases Nat.lt_or_ge i n with h9 | h9
    · obtain ⟨kd, pp, nn, rr, a, b, c1, c2, c3, c4⟩ := h.at' i h9
      refine ⟨kd, pp, nn, rr, a, b, ?_, ?_, ?_, ?_⟩ <;> rw [List.getElem?_append, if_pos (by omega)] <;> assumption
    · obtain ⟨kd, pp, nn, rr, a, b, c1, c2, c3, c4⟩ := k.at' (i - n) (by omega)
      refine ⟨kd, pp, nn, rr, a, b, ?_, ?_, ?_, ?_⟩ <;> rw [List.getElem?_append, if_neg (by omega), hl]
      · rw [show i * 4 - n * 4 = (i - n) * 4 by omega]; exact c1
      · rw [show i * 4 + 1 - n * 4 = (i - n) * 4 + 1 by omega]; exact c2
      · rw [show i * 4 + 2 - n * 4 = (i - n) * 4 + 2 by omega]; exact c3
      · rw [show i * 4 + 3 - n * 4 = (i - n) * 4 + 3 by omega]; exact c4
theorem firsts_op : Opl firsts 6 := by
  unfold firsts
  exact (((((Opl.one' (by unfold I64; decide) (by unfold I64; decide)).app (Opl.one' (by unfold I64; decide) (by unfold I64; decide))).app (Opl.one' (by unfold I64; decide) (by unfold I64; decide))).app (Opl.one' (by unfold I64; decide) (by unfold I64; decide))).app (Opl.one' (by unfold I64; decide) (by unfold I64; decide))).app (Opl.one' (by unfold I64; decide) (by unfold I64; decide))
/-- steps as they come in -/
structure Ops (W : World) (aa : Option Addr) (len cap : Nat) (ys : List Value) : Prop where
  lc : len ≤ cap
  cm : cap ≤ maxLen
  nl : aa = none → len = 0 ∧ cap = 0
  op : Opl ys len
  cell : ∀ a, aa = some a → ∀ j u, ys[j]? = some u → W.cell? (a.add j) = some u
theorem range4 {w : World} {g o : Nat} {x y z t : Value} (h0 : w.cell? ⟨g, o, none⟩ = some x) (h1 : w.cell? ⟨g, o + 1, none⟩ = some y) (h2 : w.cell? ⟨g, o + 2, none⟩ = some z) (h3 : w.cell? ⟨g, o + 3, none⟩ = some t) : w.rangeAt g o [x, y, z, t] := by
  intro k v hv
  match k, hv with
  | 0, hv => injection hv with hv; subst hv; exact h0
  | 1, hv => injection hv with hv; subst hv; exact h1
  | 2, hv => injection hv with hv; subst hv; exact h2
  | 3, hv => injection hv with hv; subst hv; exact h3
theorem Bk.start {wb : Nat} (hw : w.heap[wb]? = some (.cells #[.slice none 0 0, .slice none 0 0, .slice none 0 0, .slice none 0 0, .slice none 0 0] 51 (0, 0))) (u : Up W0 w) (hb : W0.heap.size ≤ wb) :
    Bk 22 W0 (ext (fun _ => 0) W0.heap.size 10) w wb ⟨.slice none 0 0, .slice none 0 0, .slice none 0 0, .slice none 0 0, .slice none 0 0⟩ [] [] [] [] [] [] [] [] := by
  refine ⟨u, (fun b h => ext_lt h), ext_ge hb, hw, ⟨⟨rfl, Or.inl ⟨rfl, rfl⟩⟩, (fun g h => (by simp [Value.ownBlock] at h))⟩, ⟨⟨rfl, Or.inl ⟨rfl, rfl⟩⟩, (fun g h => (by simp [Value.ownBlock] at h))⟩, ⟨⟨rfl, Or.inl ⟨rfl, rfl⟩⟩, (fun g h => (by simp [Value.ownBlock] at h))⟩, ⟨⟨rfl, Or.inl ⟨rfl, rfl⟩⟩, (fun g h => (by simp [Value.ownBlock] at h))⟩, ⟨⟨rfl, Or.inl ⟨rfl, rfl⟩⟩, (fun g h => (by simp [Value.ownBlock] at h))⟩, ?_, ?_, rfl, rfl, Or.inr rfl, ?_, List.nodup_nil, ?_, ?_, ?_⟩
  · intro j p S h
    simp at h
  · intro j p S h
    simp at h
  · intro e h
    cases h
  · intro e h
    cases h
  · intro i v e h
    simp at h
  · intro i v e h
    simp at h
theorem own_room {base n size g c : Nat} {ty : TypeId} {xs : List Value} (h : w.ownsRow base ty size (.slice (some ⟨g, 0, none⟩) n c) n xs) : n ≤ c ∧ c ≤ 9223372036854775807 := by
  obtain ⟨va, vc, e, h1, h2⟩ := own_slice h
  injection e with _ _ e3
  subst e3
  exact ⟨h1, h2⟩
set_option maxRecDepth 100000 in
set_option maxHeartbeats 4000000 in
theorem all_walk {aa : Option Addr} {len cap : Nat} {ys : List Value} (D : Ops W aa len cap ys) (hlen : len ≤ 1048576) :
    Calls Try.prog 7 #[.slice aa len cap] W fun e w' => e = .returned (.bool true) ∧ Up W w' := by
  have hio : Try.prog.info? 54 = some Try.t54 := by kernel_rfl
  have HD : Hid (Ops W aa len cap ys) := D
  have H1 : Hid (∀ w1, w1 = W.alloc (Obj.cells firsts.toArray 54) → Up W w1 ∧ w1.ownsRow 0 54 4 (.slice (some ⟨W.heap.size, 0, none⟩) 6 6) 6 firsts) := fun w1 e => by
    rw [e]
    exact ⟨(Up.refl W).alloc _, own_of (heap_alloc_new W _) (Nat.zero_le _) (Nat.le_refl _) (by unfold maxLen; decide) rfl rfl (fun j _ => by simp)⟩
  have HLy : Hid (ys.length = len * 4) := D.op.len
  have hlc := D.lc
  have hcm := D.cm
  clear D
  go_enter Try.func7, Try.ntmps7
  go_wp2_with fail
  refine (first_any W).mono ?_
  rintro e w1 ⟨rfl, hw1⟩
  obtain ⟨u1, o1⟩ := H1.out w1 hw1
  have HU1 : Hid (Up W w1) := u1
  have HO1 : Hid (w1.ownsRow 0 54 4 (.slice (some ⟨W.heap.size, 0, none⟩) 6 6) 6 firsts) := o1
  clear H1 hw1 u1 o1
  have hfb : W.heap.size ≤ W.heap.size := Nat.le_refl _
  obtain ⟨fb, hfbe⟩ : ∃ fb, fb = W.heap.size := ⟨_, rfl⟩
  rw [← hfbe] at HO1 ⊢
  replace hfb : W.heap.size ≤ fb := by omega
  clear hfbe
  rcases aa with _ | ad
  · obtain ⟨rfl, rfl⟩ := HD.out.nl rfl
    go_wp2_with (at_builtin; refine wpList_append_own_none rfl _ _ 45 rfl 0 54 Try.t54 4 Try.underlying45 hio _ _ _ rfl HO1.out rfl ?_)
    have HAll : Hid (∀ w, Up w1 w → ∀ i, i < 6 → ∃ kd pp nn rr, I64 pp ∧ I64 nn ∧ w.rangeAt fb (i * 4) [.int .i64 kd, .int .i64 pp, .int .i64 nn, .bool rr]) := fun w u i hi => by
      obtain ⟨kd, pp, nn, rr, q1, q2, c0, c1, c2, c3⟩ := (firsts_op).at' i hi
      have ho := HO1.out
      have e0 := own_cell ho (i * 4) (by omega)
      have e1 := own_cell ho (i * 4 + 1) (by omega)
      have e2 := own_cell ho (i * 4 + 2) (by omega)
      have e3 := own_cell ho (i * 4 + 3) (by omega)
      rw [Nat.zero_add] at e0 e1 e2 e3
      exact ⟨kd, pp, nn, rr, q1, q2, range4 (cell_up u (by rw [e0]; exact c0)) (cell_up u (by rw [e1]; exact c1)) (cell_up u (by rw [e2]; exact c2)) (cell_up u (by rw [e3]; exact c3))⟩
    have u3 : Up w1 (w1.alloc (Obj.cells #[.slice none 0 0, .slice none 0 0, .slice none 0 0, .slice none 0 0, .slice none 0 0] 51)) := (Up.refl w1).alloc _
    have k3 : (w1.alloc (Obj.cells #[.slice none 0 0, .slice none 0 0, .slice none 0 0, .slice none 0 0, .slice none 0 0] 51)).heap[w1.heap.size]? = some (.cells #[.slice none 0 0, .slice none 0 0, .slice none 0 0, .slice none 0 0, .slice none 0 0] 51 (0, 0)) := heap_alloc_new w1 _
    have HB0 : Hid (Sp w1 w1.heap.size 0 4 0 (w1.alloc (Obj.cells #[.slice none 0 0, .slice none 0 0, .slice none 0 0, .slice none 0 0, .slice none 0 0] 51))) := ⟨_, _, [], [], [], [], [], [], [], Bk.start k3 u3 (Nat.le_refl _), rfl, rfl, rfl, Nat.le_refl _, by simp, Nat.le_refl _⟩
    have HUX : Hid (Up W w1) := HU1.out
    clear u3 k3 HU1 HO1 HD HLy
    obtain ⟨wb, hwb⟩ : ∃ wb, wb = w1.heap.size := ⟨_, rfl⟩
    rw [← hwb] at HB0 ⊢
    clear hwb
    generalize World.alloc w1 _ = w3 at HB0 ⊢
    go_loopw [5, 6] (fun OK I wr => ∃ i : Nat, i ≤ 6 ∧ OK = .bool true ∧ I = .int .i64 (i : Int) ∧ Hid (Sp w1 wb i 4 (24 * i) wr)) (fun _ I _ => 6 - (intOf I).toNat)
    case atStart => exact ⟨0, by omega, rfl, rfl, HB0.out⟩
    case round =>
      clear HB0
      obtain ⟨i, hi, rfl, rfl, HS⟩ := hrel
      obtain ⟨ρ, P, ps, S, F, A, G, Lv, Lm, hb, hL, hA, hG, np, nf, nl⟩ := HS.out.at'
      by_cases hlt : i < 6
      · have d1 : (i : Int) < (6 : Int) := by omega
        obtain ⟨kd, pp, nn, rr, q1, q2, hr⟩ := HAll.out wr hb.up i hlt
        have HRr : Hid (wr.rangeAt fb (i * 4) [.int .i64 kd, .int .i64 pp, .int .i64 nn, .bool rr]) := hr
        have HSt : Hid (Calls Try.prog 20 #[.pointer (some ⟨wb, 0, none⟩), .agg #[.int .i64 kd, .int .i64 pp, .int .i64 nn, .bool rr]] wr fun e w' => e = .returned (.bool true) ∧ Sp w1 wb (i + 1) 6 (24 * i) w') := (step_any hb hL hA hG (by omega) (by omega) q1 q2).mono fun e w' ⟨r1, r2⟩ => ⟨r1, by
          obtain ⟨ρ5, P5, ps5, S5, F5, A5, G5, Lv5, Lm5, b5, hL5, hA5, hG5, np5, nf5, nl5⟩ := r2.at'
          exact ⟨ρ5, P5, ps5, S5, F5, A5, G5, Lv5, Lm5, b5, hL5, hA5, hG5, by omega, by omega, by omega⟩⟩
        clear hr hb hL hA hG np nf nl HS q1 q2
        go_wp2_with (refine wpList_load_mid rfl 54 _ rfl fb (i * 4) rfl [.int .i64 kd, .int .i64 pp, .int .i64 nn, .bool rr] _ HRr.out Try.underlying54 rfl (by kernel_rfl) ?_)
        refine Calls.mono HSt.out ?_
        rintro e w5 ⟨rfl, h5⟩
        obtain ⟨ρ5, P5, ps5, S5, F5, A5, G5, Lv5, Lm5, b5, hL5, hA5, hG5, np5, nf5, nl5⟩ := h5.at'
        obtain ⟨fa, fc, hfv, f1, f2⟩ := own_slice b5.fR.own
        have kf : w5.cell? ⟨wb, 1, none⟩ = some (.slice fa F5.length fc) := by rw [← hfv]; exact heap_cell b5.blk rfl
        by_cases hf : 4 < F5.length
        · have d4 : (4 : Int) < (F5.length : Int) := by omega
          have HSe : Hid (Calls Try.prog 21 #[.pointer (some ⟨wb, 0, none⟩)] w5 fun e w' => e = .returned (.bool true) ∧ ∃ ρ' P' Lv' Lm', Bk 22 w1 ρ' w' wb P' ps5 S5 S5 [] [] [] Lv' Lm' ∧ Lm'.length = Lv'.length ∧ Lv'.length ≤ 24 * (i + 1)) := (settle_any b5 hL5 hA5 hG5 (by omega) (by omega)).mono fun e w' ⟨r1, ρ', P', Lv', Lm', r2, r3, r4⟩ => ⟨r1, ρ', P', Lv', Lm', r2, r3, by omega⟩
          clear h5 b5 hL5 hA5 hG5 nl5 nf5 hfv HSt HRr hf
          go_wp2_with fail
          refine Calls.mono HSe.out ?_
          rintro e w6 ⟨rfl, ρ6, P6, Lv6, Lm6, b6, hL6, nl6⟩
          have HLk : Hid _ := looks_any b6 hL6
          have HE6 : Hid (∀ w, Up w6 w → Sp w1 wb (i + 1) 4 (24 * (i + 1)) w) := fun w u => ⟨_, P6, ps5, S5, [], [], [], Lv6, Lm6, b6.upR (r := 30) u (by omega), hL6, rfl, rfl, np5, by simp, nl6⟩
          clear HSe b6 hL6 nl6 kf
          go_wp2_with fail
          refine Calls.mono HLk.out ?_
          rintro e w7 ⟨rfl, u7⟩
          have HE7 : Hid _ := HE6.out w7 u7
          clear HLk HE6 u7
          go_wp2_with fail
          refine ⟨⟨i + 1, by omega, by first | rfl | (simp; done), by first | rfl | (push_cast; rfl) | (simp; done), HE7.out⟩, ?_⟩
          simp [intOf]
          omega
        · have d4 : ¬ (4 : Int) < (F5.length : Int) := by omega
          have HLk : Hid _ := looks_any b5 hL5
          have HE6 : Hid (∀ w, Up w5 w → Sp w1 wb (i + 1) 4 (24 * (i + 1)) w) := fun w u => ⟨_, P5, ps5, S5, F5, A5, G5, Lv5, Lm5, b5.upR (r := 30) u (by omega), hL5, hA5, hG5, np5, by omega, by omega⟩
          clear h5 b5 hL5 hA5 hG5 nl5 nf5 hfv HSt HRr hf
          go_wp2_with fail
          refine Calls.mono HLk.out ?_
          rintro e w7 ⟨rfl, u7⟩
          have HE7 : Hid _ := HE6.out w7 u7
          clear HLk HE6 u7 kf
          go_wp2_with fail
          refine ⟨⟨i + 1, by omega, by first | rfl | (simp; done), by first | rfl | (push_cast; rfl) | (simp; done), HE7.out⟩, ?_⟩
          simp [intOf]
          omega
      · have d1 : ¬ (i : Int) < (6 : Int) := by omega
        have HSe : Hid (Calls Try.prog 21 #[.pointer (some ⟨wb, 0, none⟩)] wr fun e w' => e = .returned (.bool true) ∧ Up W w') := (settle_any hb hL hA hG (by omega) (by omega)).mono fun e w' ⟨r1, ρ', P', Lv', Lm', r2, r3, r4⟩ => ⟨r1, HUX.out.trans r2.up⟩
        clear hb hL hA hG np nf nl HS HAll
        go_wp2_with fail
        refine Calls.mono HSe.out ?_
        rintro e w7 ⟨rfl, u7⟩
        have HE7 : Hid _ := u7
        clear HSe u7
        go_wp2_with fail
        go_ret
        exact ⟨by first | rfl | (simp; done), HE7.out⟩
  · have hLc : Hid (∀ j u, ys[j]? = some u → w1.cell? (ad.add j) = some u) := fun j u h => cell_up HU1.out (HD.out.cell ad rfl j u h)
    go_wp2_with (at_builtin; refine wpList_append_own_at2 _ rfl _ _ 45 45 rfl 0 54 Try.t54 (.agg #[.int .i64 0, .int .i64 0, .int .i64 0, .bool false]) 4 32 Try.underlying45 Try.underlying45 hio rfl rfl rfl rfl (by decide) _ _ _ rfl HO1.out ad len cap ys rfl HLy.out hLc.out HD.out.op.one (by unfold maxLen; omega) (by omega) (Nat.zero_le _) ?_; intro v' w2 ho hg hat; have HX : Hid (W.heap.size ≤ fb → Up W w2) := fun hfb => ⟨hg.os.trans HU1.out.os, hg.output.trans HU1.out.output, Nat.le_trans HU1.out.size hg.size, fun b hb => (hg.block b (Nat.lt_of_lt_of_le hb HU1.out.size) (by intro e; have e2 := Option.some.inj e; have e3 : b = fb := (by first | exact e2 | exact e2.symm); omega)).trans (HU1.out.block b hb)⟩; obtain ⟨ga, cg, rfl⟩ : ∃ ga cg, v' = .slice (some ⟨ga, 0, none⟩) (6 + len) cg := (by rcases own_cases ho with ⟨_, h9, _⟩ | ⟨g, c, h9, _⟩; omega; exact ⟨g, c, h9⟩); have hcg := own_room ho; have HO2 : Hid _ := ho; clear ho hg hat)
    have HAll : Hid (∀ w, Up w2 w → ∀ i, i < (6 + len) → ∃ kd pp nn rr, I64 pp ∧ I64 nn ∧ w.rangeAt ga (i * 4) [.int .i64 kd, .int .i64 pp, .int .i64 nn, .bool rr]) := fun w u i hi => by
      obtain ⟨kd, pp, nn, rr, q1, q2, c0, c1, c2, c3⟩ := (firsts_op.app HD.out.op).at' i hi
      have ho := HO2.out
      have e0 := own_cell ho (i * 4) (by omega)
      have e1 := own_cell ho (i * 4 + 1) (by omega)
      have e2 := own_cell ho (i * 4 + 2) (by omega)
      have e3 := own_cell ho (i * 4 + 3) (by omega)
      rw [Nat.zero_add] at e0 e1 e2 e3
      exact ⟨kd, pp, nn, rr, q1, q2, range4 (cell_up u (by rw [e0]; exact c0)) (cell_up u (by rw [e1]; exact c1)) (cell_up u (by rw [e2]; exact c2)) (cell_up u (by rw [e3]; exact c3))⟩
    have u3 : Up w2 (w2.alloc (Obj.cells #[.slice none 0 0, .slice none 0 0, .slice none 0 0, .slice none 0 0, .slice none 0 0] 51)) := (Up.refl w2).alloc _
    have k3 : (w2.alloc (Obj.cells #[.slice none 0 0, .slice none 0 0, .slice none 0 0, .slice none 0 0, .slice none 0 0] 51)).heap[w2.heap.size]? = some (.cells #[.slice none 0 0, .slice none 0 0, .slice none 0 0, .slice none 0 0, .slice none 0 0] 51 (0, 0)) := heap_alloc_new w2 _
    have HB0 : Hid (Sp w2 w2.heap.size 0 4 0 (w2.alloc (Obj.cells #[.slice none 0 0, .slice none 0 0, .slice none 0 0, .slice none 0 0, .slice none 0 0] 51))) := ⟨_, _, [], [], [], [], [], [], [], Bk.start k3 u3 (Nat.le_refl _), rfl, rfl, rfl, Nat.le_refl _, by simp, Nat.le_refl _⟩
    have HUX : Hid (Up W w2) := HX.out hfb
    clear u3 k3 HU1 HO1 HD HLy HO2 HX hLc
    obtain ⟨wb, hwb⟩ : ∃ wb, wb = w2.heap.size := ⟨_, rfl⟩
    rw [← hwb] at HB0 ⊢
    clear hwb
    generalize World.alloc w2 _ = w3 at HB0 ⊢
    go_loopw [5, 6] (fun OK I wr => ∃ i : Nat, i ≤ (6 + len) ∧ OK = .bool true ∧ I = .int .i64 (i : Int) ∧ Hid (Sp w2 wb i 4 (24 * i) wr)) (fun _ I _ => (6 + len) - (intOf I).toNat)
    case atStart => exact ⟨0, by omega, rfl, rfl, HB0.out⟩
    case round =>
      clear HB0
      obtain ⟨i, hi, rfl, rfl, HS⟩ := hrel
      obtain ⟨ρ, P, ps, S, F, A, G, Lv, Lm, hb, hL, hA, hG, np, nf, nl⟩ := HS.out.at'
      by_cases hlt : i < (6 + len)
      · have d1 : (i : Int) < ((6 + len) : Int) := by omega
        obtain ⟨kd, pp, nn, rr, q1, q2, hr⟩ := HAll.out wr hb.up i hlt
        have HRr : Hid (wr.rangeAt ga (i * 4) [.int .i64 kd, .int .i64 pp, .int .i64 nn, .bool rr]) := hr
        have HSt : Hid (Calls Try.prog 20 #[.pointer (some ⟨wb, 0, none⟩), .agg #[.int .i64 kd, .int .i64 pp, .int .i64 nn, .bool rr]] wr fun e w' => e = .returned (.bool true) ∧ Sp w2 wb (i + 1) 6 (24 * i) w') := (step_any hb hL hA hG (by omega) (by omega) q1 q2).mono fun e w' ⟨r1, r2⟩ => ⟨r1, by
          obtain ⟨ρ5, P5, ps5, S5, F5, A5, G5, Lv5, Lm5, b5, hL5, hA5, hG5, np5, nf5, nl5⟩ := r2.at'
          exact ⟨ρ5, P5, ps5, S5, F5, A5, G5, Lv5, Lm5, b5, hL5, hA5, hG5, by omega, by omega, by omega⟩⟩
        clear hr hb hL hA hG np nf nl HS q1 q2
        go_wp2_with (refine wpList_load_mid rfl 54 _ rfl ga (i * 4) rfl [.int .i64 kd, .int .i64 pp, .int .i64 nn, .bool rr] _ HRr.out Try.underlying54 rfl (by kernel_rfl) ?_)
        refine Calls.mono HSt.out ?_
        rintro e w5 ⟨rfl, h5⟩
        obtain ⟨ρ5, P5, ps5, S5, F5, A5, G5, Lv5, Lm5, b5, hL5, hA5, hG5, np5, nf5, nl5⟩ := h5.at'
        obtain ⟨fa, fc, hfv, f1, f2⟩ := own_slice b5.fR.own
        have kf : w5.cell? ⟨wb, 1, none⟩ = some (.slice fa F5.length fc) := by rw [← hfv]; exact heap_cell b5.blk rfl
        by_cases hf : 4 < F5.length
        · have d4 : (4 : Int) < (F5.length : Int) := by omega
          have HSe : Hid (Calls Try.prog 21 #[.pointer (some ⟨wb, 0, none⟩)] w5 fun e w' => e = .returned (.bool true) ∧ ∃ ρ' P' Lv' Lm', Bk 22 w2 ρ' w' wb P' ps5 S5 S5 [] [] [] Lv' Lm' ∧ Lm'.length = Lv'.length ∧ Lv'.length ≤ 24 * (i + 1)) := (settle_any b5 hL5 hA5 hG5 (by omega) (by omega)).mono fun e w' ⟨r1, ρ', P', Lv', Lm', r2, r3, r4⟩ => ⟨r1, ρ', P', Lv', Lm', r2, r3, by omega⟩
          clear h5 b5 hL5 hA5 hG5 nl5 nf5 hfv HSt HRr hf
          go_wp2_with fail
          refine Calls.mono HSe.out ?_
          rintro e w6 ⟨rfl, ρ6, P6, Lv6, Lm6, b6, hL6, nl6⟩
          have HLk : Hid _ := looks_any b6 hL6
          have HE6 : Hid (∀ w, Up w6 w → Sp w2 wb (i + 1) 4 (24 * (i + 1)) w) := fun w u => ⟨_, P6, ps5, S5, [], [], [], Lv6, Lm6, b6.upR (r := 30) u (by omega), hL6, rfl, rfl, np5, by simp, nl6⟩
          clear HSe b6 hL6 nl6 kf
          go_wp2_with fail
          refine Calls.mono HLk.out ?_
          rintro e w7 ⟨rfl, u7⟩
          have HE7 : Hid _ := HE6.out w7 u7
          clear HLk HE6 u7
          go_wp2_with fail
          refine ⟨⟨i + 1, by omega, by first | rfl | (simp; done), by first | rfl | (push_cast; rfl) | (simp; done), HE7.out⟩, ?_⟩
          simp [intOf]
          omega
        · have d4 : ¬ (4 : Int) < (F5.length : Int) := by omega
          have HLk : Hid _ := looks_any b5 hL5
          have HE6 : Hid (∀ w, Up w5 w → Sp w2 wb (i + 1) 4 (24 * (i + 1)) w) := fun w u => ⟨_, P5, ps5, S5, F5, A5, G5, Lv5, Lm5, b5.upR (r := 30) u (by omega), hL5, hA5, hG5, np5, by omega, by omega⟩
          clear h5 b5 hL5 hA5 hG5 nl5 nf5 hfv HSt HRr hf
          go_wp2_with fail
          refine Calls.mono HLk.out ?_
          rintro e w7 ⟨rfl, u7⟩
          have HE7 : Hid _ := HE6.out w7 u7
          clear HLk HE6 u7 kf
          go_wp2_with fail
          refine ⟨⟨i + 1, by omega, by first | rfl | (simp; done), by first | rfl | (push_cast; rfl) | (simp; done), HE7.out⟩, ?_⟩
          simp [intOf]
          omega
      · have d1 : ¬ (i : Int) < ((6 + len) : Int) := by omega
        have HSe : Hid (Calls Try.prog 21 #[.pointer (some ⟨wb, 0, none⟩)] wr fun e w' => e = .returned (.bool true) ∧ Up W w') := (settle_any hb hL hA hG (by omega) (by omega)).mono fun e w' ⟨r1, ρ', P', Lv', Lm', r2, r3, r4⟩ => ⟨r1, HUX.out.trans r2.up⟩
        clear hb hL hA hG np nf nl HS HAll
        go_wp2_with fail
        refine Calls.mono HSe.out ?_
        rintro e w7 ⟨rfl, u7⟩
        have HE7 : Hid _ := u7
        clear HSe u7
        go_wp2_with fail
        go_ret
        exact ⟨by first | rfl | (simp; done), HE7.out⟩
end Go.Proofs.Ytakciepfckdpfaa
