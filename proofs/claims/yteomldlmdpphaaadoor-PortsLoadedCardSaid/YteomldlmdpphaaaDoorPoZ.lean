/- Step. -/
import Derived.Test.YteomldlmdpphaaaDoorPpB
import Derived.Deep.MidRow
namespace Go.Proofs.YteomldlmdpphaaaDoor
open Go.RowKit
set_option linter.unusedVariables false
variable {b : Nat} {p : Po}
theorem there6 (w : World) (t : TypeId) : (w.alloc (.cells #[.nilFunc, .nilFunc, .nilFunc, .nilFunc, .nilFunc, .nilFunc] t)).there w.heap.size 0 6 := by
  intro j hj
  have h := heap_alloc_new w (.cells #[.nilFunc, .nilFunc, .nilFunc, .nilFunc, .nilFunc, .nilFunc] t)
  generalize World.alloc w _ = w' at h ⊢
  refine ⟨?_, by simp only [World.frozen?, h]; simp⟩
  rw [cell_of_row _ _ _ _ _ _ h]
  have : j = 0 ∨ j = 1 ∨ j = 2 ∨ j = 3 ∨ j = 4 ∨ j = 5 := by omega
  rcases this with rfl | rfl | rfl | rfl | rfl | rfl <;> rfl
theorem there_up {w w' : World} {D n : Nat} (u : Up w w') (h : w.there D 0 n) (hD : D < w.heap.size) : w'.there D 0 n := fun j hj => by
  have := h j hj
  have e : w'.heap[D]? = w.heap[D]? := u.block D hD
  unfold World.cell? World.frozen? at *
  dsimp only at *
  rw [e]
  exact this
/-- what a countdown has laid -/
structure CdF (b k K cp s : Nat) (w w' : World) : Prop where
  a : w'.cell? ⟨s, 0, none⟩ = some (.pointer (some ⟨b, k, none⟩))
  c : w'.cell? ⟨s + 1, 0, none⟩ = some (.func (.func K) #[] #[.pointer (some ⟨cp, 0, none⟩)])
  size : w'.heap.size = s + 3
  up : Up w w'
theorem countdown_lit (k K cp : Nat) (W : World) (s : Nat) (hs : W.heap.size = s) :
    Calls Tryd.prog 31 #[.pointer (some ⟨b, k, none⟩), .func (.func K) #[] #[.pointer (some ⟨cp, 0, none⟩)]] W fun e w' => e = .returned (.agg #[.func (.func 67) #[] #[.pointer (some ⟨s, 0, none⟩)], .func (.func 68) #[] #[.pointer (some ⟨s, 0, none⟩), .pointer (some ⟨s + 1, 0, none⟩)]]) ∧ CdF b k K cp s W w' := by
  subst hs
  exact (countdown_any k K cp W).mono fun e w' ⟨h1, h2, h3, h4, h5⟩ => ⟨h1, ⟨h2, h3, h4, h5⟩⟩
/-- all that lies when the dues are made -/
structure Made (b D cp s1 s2 : Nat) (W w : World) : Prop where
  up : Up W w
  du : Dues b cp s1 s2 w
  D0 : W.heap.size ≤ D
  c0 : W.heap.size ≤ cp
  e0 : W.heap.size ≤ s1
  e1 : W.heap.size ≤ s2
  row : ∀ j, j < 3 → w.cell? ⟨D, 2 * j, none⟩ = some (duL cp s1 s2 j) ∧ w.cell? ⟨D, 2 * j + 1, none⟩ = some (duP cp s1 s2 j)
theorem up_setCells {W w : World} {D : Nat} (u : Up W w) (h : W.heap.size ≤ D) : ∀ (vs : List Value) (o : Nat), Up W (w.setCells D o vs) := by
  intro vs
  induction vs generalizing w with
  | nil => intro o; exact u
  | cons x xs ih => intro o; exact ih (u.setCell (p := ⟨D, o, none⟩) h x) (o + 1)
theorem cell_setCells_other {w : World} {D g : Nat} (hg : g ≠ D) : ∀ (vs : List Value) (o k : Nat), (w.setCells D o vs).cell? ⟨g, k, none⟩ = w.cell? ⟨g, k, none⟩ := by
  intro vs
  induction vs generalizing w with
  | nil => intro o k; rfl
  | cons x xs ih =>
    intro o k
    refine (ih (w := w.setCell ⟨D, o, none⟩ x) (o + 1) k).trans ?_
    have := Below.heap_setCell w ⟨D, o, none⟩ x g hg
    unfold World.cell?
    dsimp only
    rw [this]
theorem one6 (cp s1 s2 : Nat) : (#[duL cp s1 s2 0, duP cp s1 s2 0, duL cp s1 s2 1, duP cp s1 s2 1, duL cp s1 s2 2, duP cp s1 s2 2].all (·.oneCell')) = true := by simp [duL, duP, Value.oneCell']
theorem made_end {W wX : World} {D cp s1 s2 : Nat} (du : Dues b cp s1 s2 wX) (n0 : cp ≠ D) (n1 : s1 ≠ D) (n2 : s1 + 1 ≠ D) (n3 : s2 ≠ D) (n4 : s2 + 1 ≠ D) (ht : wX.there D 0 6) (u : Up W wX) (h0 : W.heap.size ≤ D) (h1 : W.heap.size ≤ cp) (h2 : W.heap.size ≤ s1) (h3 : W.heap.size ≤ s2) :
    Made b D cp s1 s2 W (wX.setCells D 0 [duL cp s1 s2 0, duP cp s1 s2 0, duL cp s1 s2 1, duP cp s1 s2 1, duL cp s1 s2 2, duP cp s1 s2 2]) := by
  have r := World.rangeAt_setCells_same wX D 0 [duL cp s1 s2 0, duP cp s1 s2 0, duL cp s1 s2 1, duP cp s1 s2 1, duL cp s1 s2 2, duP cp s1 s2 2] ht
  refine ⟨up_setCells u h0 _ 0, ⟨(cell_setCells_other n0 _ 0 0).trans du.c, (cell_setCells_other n1 _ 0 0).trans du.a, (cell_setCells_other n2 _ 0 0).trans du.a1, (cell_setCells_other n3 _ 0 0).trans du.t, (cell_setCells_other n4 _ 0 0).trans du.t1⟩, h0, h1, h2, h3, fun j hj => ?_⟩
  have : j = 0 ∨ j = 1 ∨ j = 2 := by omega
  rcases this with rfl | rfl | rfl
  · exact ⟨r 0 _ rfl, r 1 _ rfl⟩
  · exact ⟨r 2 _ rfl, r 3 _ rfl⟩
  · exact ⟨r 4 _ rfl, r 5 _ rfl⟩
/-- in the midst of the dues -/
def stgP (q : Po) (m : Int) : Nat → Po
  | 0 => q
  | 1 => q.passAl m
  | 2 => (q.passAl m).count m
  | _ => q.pass m
def stgZ (q : Po) (m : Int) (zs : List Int) : Nat → List Int
  | 0 => zs
  | 1 => zs
  | 2 => zs
  | _ => q.passZ m zs
theorem Pb.does1 {W0 : World} {K : List (Nat × Obj)} {zs : List Int} {W : World} {q : Po} {f : Nat} {args : Array Value} {r : Value} (h : Pb W0 K b p zs W) (oq : q.Ok)
    (D : ∀ v, PoAt W b p v → Calls Tryd.prog f args W fun e w' => e = .returned r ∧ PoAt w' b q v ∧ Fr b W w') :
    Calls Tryd.prog f args W fun e w' => e = .returned r ∧ Pb W0 K b q zs w' := by
  obtain ⟨v, h1, h2, h3⟩ := h.row
  refine (D v h1).mono ?_
  rintro e w' ⟨rfl, g1, g2⟩
  refine ⟨rfl, h.moved oq h.len fun v' h1' h2' => ?_⟩
  have e : v' = v := by
    have := (h1'.all.2.2.2.2.2.2.2.2.2.2.2.2).symm.trans h1.all.2.2.2.2.2.2.2.2.2.2.2.2
    injection this
  subst e
  exact ⟨v', g1, h2.fr g2 (by omega), FrS.ofFr g2, Moved.refl _ _⟩
theorem Pb.keepAll {W0 W w5 : World} {K L : List (Nat × Obj)} {zs : List Int} (h : Pb W0 K b p zs W) (u : Up W w5) (hL : ∀ k o, (k, o) ∈ L → W.heap.size ≤ k ∧ w5.heap[k]? = some o) : Pb W0 (L ++ K) b p zs w5 := by
  obtain ⟨v, h1, h2, h3⟩ := (h.more u).row
  obtain ⟨v', g1, g2, g3⟩ := h.row
  have e : v' = v := by
    have := ((g1.up u).all.2.2.2.2.2.2.2.2.2.2.2.2).symm.trans h1.all.2.2.2.2.2.2.2.2.2.2.2.2
    injection this
  subst e
  refine ⟨h.laid, h.ok, h.len, h.new, h.up.trans u, v', h1, h2, fun k o hk => ?_⟩
  rcases List.mem_append.1 hk with hk | hk
  · obtain ⟨a1, a2⟩ := hL k o hk
    refine ⟨a2, by have := h.lt; omega, fun e => ?_⟩
    have := (g2.lt k e).2
    omega
  · exact h3 k o hk
theorem Pb.keptL {W0 W : World} {K L : List (Nat × Obj)} {zs : List Int} (h : Pb W0 (L ++ K) b p zs W) : ∀ k o, (k, o) ∈ L → W.heap[k]? = some o := fun k o hk => h.kept (List.mem_append_left _ hk)
theorem Pb.loseL {W0 W : World} {K L : List (Nat × Obj)} {zs : List Int} (h : Pb W0 (L ++ K) b p zs W) : Pb W0 K b p zs W := by
  obtain ⟨v, h1, h2, h3⟩ := h.row
  exact ⟨h.laid, h.ok, h.len, h.new, h.up, v, h1, h2, fun k o hk => h3 k o (List.mem_append_right _ hk)⟩
theorem cell_block {w w' : World} {k o : Nat} {x : Obj} (h : w.heap[k]? = some x) (h' : w'.heap[k]? = some x) : w'.cell? ⟨k, o, none⟩ = w.cell? ⟨k, o, none⟩ := by
  unfold World.cell?
  dsimp only
  rw [h, h']
theorem made_list {W w5 : World} {D cp s1 s2 : Nat} (md : Made b D cp s1 s2 W w5) : ∃ L : List (Nat × Obj), (∀ k o, (k, o) ∈ L → W.heap.size ≤ k ∧ w5.heap[k]? = some o) ∧ ∀ w : World, (∀ k o, (k, o) ∈ L → w.heap[k]? = some o) →
    Dues b cp s1 s2 w ∧ ∀ j, j < 3 → w.cell? ⟨D, 2 * j, none⟩ = some (duL cp s1 s2 j) ∧ w.cell? ⟨D, 2 * j + 1, none⟩ = some (duP cp s1 s2 j) := by
  have ob : ∀ k, k < w5.heap.size → ∃ o, w5.heap[k]? = some o := fun k hk => ⟨_, Array.getElem?_eq_getElem hk⟩
  obtain ⟨oD, hD⟩ := ob D (World.block_lt_of_cell? _ _ (md.row 0 (by decide)).1)
  obtain ⟨oc, hc⟩ := ob cp (World.block_lt_of_cell? _ _ md.du.c)
  obtain ⟨o1, h1⟩ := ob s1 (World.block_lt_of_cell? _ _ md.du.a)
  obtain ⟨o2, h2⟩ := ob (s1 + 1) (World.block_lt_of_cell? _ _ md.du.a1)
  obtain ⟨o3, h3⟩ := ob s2 (World.block_lt_of_cell? _ _ md.du.t)
  obtain ⟨o4, h4⟩ := ob (s2 + 1) (World.block_lt_of_cell? _ _ md.du.t1)
  have m0 := md.D0
  have m1 := md.c0
  have m2 := md.e0
  have m3 := md.e1
  refine ⟨[(D, oD), (cp, oc), (s1, o1), (s1 + 1, o2), (s2, o3), (s2 + 1, o4)], fun k o hk => ?_, fun w hw => ?_⟩
  · simp only [List.mem_cons, List.not_mem_nil, or_false] at hk
    rcases hk with e | e | e | e | e | e <;> injection e with e1 e2 <;> subst e1 e2
    · exact ⟨m0, hD⟩
    · exact ⟨m1, hc⟩
    · exact ⟨m2, h1⟩
    · exact ⟨by omega, h2⟩
    · exact ⟨m3, h3⟩
    · exact ⟨by omega, h4⟩
  · have kD := hw D oD (by simp)
    have kc := hw cp oc (by simp)
    have k1 := hw s1 o1 (by simp)
    have k2 := hw (s1 + 1) o2 (by simp)
    have k3 := hw s2 o3 (by simp)
    have k4 := hw (s2 + 1) o4 (by simp)
    exact ⟨⟨(cell_block hc kc).trans md.du.c, (cell_block h1 k1).trans md.du.a, (cell_block h2 k2).trans md.du.a1, (cell_block h3 k3).trans md.du.t, (cell_block h4 k4).trans md.du.t1⟩, fun j hj => ⟨(cell_block hD kD).trans (md.row j hj).1, (cell_block hD kD).trans (md.row j hj).2⟩⟩
set_option maxRecDepth 100000 in
set_option maxHeartbeats 1000000 in
theorem Pb.step {W0 W : World} {K : List (Nat × Obj)} {zs : List Int} (h : Pb W0 K b p zs W) (c : Int) (c0 : 0 ≤ c) (c1 : c ≤ 1000000) :
    Calls Tryd.prog 17 #[.pointer (some ⟨b, 0, none⟩), .int .i64 c] W fun e w' => e = .returned (.int .i64 0) ∧ Pb W0 K b (p.run zs c).1 (p.run zs c).2 w' := by
  have d1 : decide (c < 0) = false := decide_eq_false (by omega)
  have d2 : decide (1000000 < c) = false := decide_eq_false (by omega)
  have hmf : ∀ (fn : Fn) (first cap : Array Value) (w : World), (Instr.makeFunc fn first cap).run Tryd.prog w = .ok (.func fn first cap) w := fun _ _ _ _ => rfl
  have H : Hid (Pb W0 K b p zs W) := h
  have lb := h.lt
  clear h
  go_enter Tryd.func17, Tryd.ntmps17
  go_wp2_with fail
  have kc : (W.alloc (.cells #[.pointer (some ⟨b, 0, none⟩)] 23)).cell? ⟨W.heap.size, 0, none⟩ = some (.pointer (some ⟨b, 0, none⟩)) := by rw [World.cell?_alloc_new]; rfl
  rename_i Q' Kk aft
  have HM : Hid (∀ (D s1 s2 : Nat) (w5 : World), Made b D W.heap.size s1 s2 W w5 → Kk { tmps := #[.pointer (some ⟨b, 0, none⟩), .int .i64 c, .pointer (some ⟨W.heap.size, 0, none⟩), undef, .int .i64 0, .pointer (some ⟨D, 0, none⟩), undef, undef, undef, .int .i64 c, .bool false, .bool false, .int .i64 c, .bool false, .bool false, .pointer (some ⟨b, 0, none⟩), .pointer (some ⟨b, 0, none⟩), .pointer (some ⟨b, 9, none⟩), .func (.func 32) #[] #[.pointer (some ⟨W.heap.size, 0, none⟩)], .agg #[duL W.heap.size s1 s2 0, duP W.heap.size s1 s2 0], .func (.func 34) #[] #[.pointer (some ⟨W.heap.size, 0, none⟩)], .func (.func 36) #[] #[.pointer (some ⟨W.heap.size, 0, none⟩)], .agg #[.func (.func 34) #[] #[.pointer (some ⟨W.heap.size, 0, none⟩)], .func (.func 36) #[] #[.pointer (some ⟨W.heap.size, 0, none⟩)]], .pointer (some ⟨b, 0, none⟩), .pointer (some ⟨b, 0, none⟩), .pointer (some ⟨b, 10, none⟩), .func (.func 38) #[] #[.pointer (some ⟨W.heap.size, 0, none⟩)], .agg #[duL W.heap.size s1 s2 2, duP W.heap.size s1 s2 2], .agg #[duL W.heap.size s1 s2 0, duP W.heap.size s1 s2 0, duL W.heap.size s1 s2 1, duP W.heap.size s1 s2 1, duL W.heap.size s1 s2 2, duP W.heap.size s1 s2 2], undef, undef, undef, undef, undef, undef, undef, undef, undef, undef, undef, undef, undef, undef, undef, undef, undef], defers := [] } w5) := by
    intro D s1 s2 w5 md
    refine aft _ _ ?_
    dsimp only
    clear aft kc hmf
    obtain ⟨L, hL, hm⟩ := made_list md
    have P5 : Hid (Pb W0 (L ++ K) b p zs w5) := H.out.keepAll md.up hL
    have HM : Hid _ := hm
    have n0 := md.c0
    have n1 := md.e0
    have n2 := md.e1
    generalize hcp : W.heap.size = cp at *
    clear md hL hm H
    go_wp2_with fail
    go_loopw [1] (fun C wr => ∃ (c' : Int) (q : Po) (zs' : List Int), C = .int .i64 c' ∧ 0 ≤ c' ∧ c' ≤ 1000000 ∧ Hid (p.run zs c = q.run zs' c') ∧ Hid (Pb W0 (L ++ K) b q zs' wr)) (fun C _ => (intOf C).toNat)
    case atStart => exact ⟨c, p, zs, rfl, c0, c1, rfl, P5⟩
    case round =>
      obtain ⟨c', q, zs', rfl, a0, a1, HR, HP⟩ := hrel
      by_cases hc : 0 < c'
      · have dc : decide (0 < c') = true := decide_eq_true hc
        have o := HP.out.ok
        have sb := Po.soon_b o c' hc
        have HS : Hid (∀ W, Pb W0 (L ++ K) b q zs' W → Calls Tryd.prog 40 #[.slice (some ⟨D, 0, none⟩) 3 3, .int .i64 c'] W fun e w' => e = .returned (.int .i64 (q.soon c' 3)) ∧ Pb W0 (L ++ K) b q zs' w') := fun W hW => by
          obtain ⟨v, h1, _⟩ := hW.row
          have mm := HM.out W hW.keptL
          exact (soonest_any o D cp s1 s2 c' (by omega) a1 v W h1 hW.laidW mm.1 mm.2).mono fun e w' ⟨g1, g2⟩ => ⟨g1, hW.more g2⟩
        have HR2 : Hid _ := (Po.run_step o zs' c' hc)
        generalize q.soon c' 3 = m at *
        have F : Hid (q.Fit m) := sb.2.2
        have m0 := sb.1
        have m1 := sb.2.1
        clear sb
        go_wp2_with fail
        refine (HS.out wr HP.out).mono ?_
        rintro e w6 ⟨rfl, h6⟩
        have P6 : Hid _ := h6
        have r0 := ((HM.out w6 h6.keptL).2 0 (by decide))
        have r1 := ((HM.out w6 h6.keptL).2 1 (by decide))
        have r2 := ((HM.out w6 h6.keptL).2 2 (by decide))
        clear h6
        obtain ⟨r00, r01⟩ := r0
        obtain ⟨r10, r11⟩ := r1
        obtain ⟨r20, r21⟩ := r2
        change w6.cell? ⟨D, 0, none⟩ = some (.func (.func 67) #[] #[.pointer (some ⟨s1, 0, none⟩)]) at r00
        change w6.cell? ⟨D, 1, none⟩ = some (.func (.func 68) #[] #[.pointer (some ⟨s1, 0, none⟩), .pointer (some ⟨s1 + 1, 0, none⟩)]) at r01
        change w6.cell? ⟨D, 2, none⟩ = some (.func (.func 34) #[] #[.pointer (some ⟨cp, 0, none⟩)]) at r10
        change w6.cell? ⟨D, 3, none⟩ = some (.func (.func 36) #[] #[.pointer (some ⟨cp, 0, none⟩)]) at r11
        change w6.cell? ⟨D, 4, none⟩ = some (.func (.func 67) #[] #[.pointer (some ⟨s2, 0, none⟩)]) at r20
        change w6.cell? ⟨D, 5, none⟩ = some (.func (.func 68) #[] #[.pointer (some ⟨s2, 0, none⟩), .pointer (some ⟨s2 + 1, 0, none⟩)]) at r21
        have HC0 : Hid (∀ W, Pb W0 (L ++ K) b q zs' W → Calls Tryd.prog 68 #[.int .i64 m, .pointer (some ⟨s1, 0, none⟩), .pointer (some ⟨s1 + 1, 0, none⟩)] W fun e w' => e = .returned (.tuple #[]) ∧ Pb W0 (L ++ K) b (q.passAl m) zs' w') := fun W hW =>
          have mm := (HM.out W hW.keptL).1
          hW.does1 (o.passAl m (by omega) F.out.al) fun v h1 => passAl_any o m (by omega) (by omega) s1 cp (by omega) (by omega) (by omega) v W h1 mm.a mm.a1 mm.c
        have o1 := o.passAl m (by omega) F.out.al
        have HC1 : Hid (∀ W, Pb W0 (L ++ K) b (q.passAl m) zs' W → Calls Tryd.prog 36 #[.int .i64 m, .pointer (some ⟨cp, 0, none⟩)] W fun e w' => e = .returned (.tuple #[]) ∧ Pb W0 (L ++ K) b ((q.passAl m).count m) zs' w') := fun W hW =>
          have mm := (HM.out W hW.keptL).1
          hW.does1 (Po.Ok.count o1 m) fun v h1 => step3_any o1 m (by omega) (by omega) cp v W h1 hW.laidW mm.c
        have o2 := Po.Ok.count o1 m
        have o3 := o.pass m (by omega) F.out
        have HC2 : Hid (∀ W, Pb W0 (L ++ K) b ((q.passAl m).count m) zs' W → Calls Tryd.prog 68 #[.int .i64 m, .pointer (some ⟨s2, 0, none⟩), .pointer (some ⟨s2 + 1, 0, none⟩)] W fun e w' => e = .returned (.tuple #[]) ∧ Pb W0 (L ++ K) b (q.pass m) (q.passZ m zs') w') := fun W hW => by
          have mm := (HM.out W hW.keptL).1
          obtain ⟨v, h1, h2, _⟩ := hW.row
          refine (passTr_any o2 m (by omega) (by omega) s2 cp (b + 1) (by omega) (by omega) v zs' hW.len W h1 h2 (by have := hW.lt; omega) mm.t mm.t1 (by omega) (by omega) mm.c).mono ?_
          rintro e w' ⟨rfl, v', g1, g2, g3, g4⟩
          refine ⟨rfl, hW.moved o3 (Po.passZ_len q m zs' hW.len) fun v0 k1 k2 => ?_⟩
          have e : v0 = v := by
            have := (k1.all.2.2.2.2.2.2.2.2.2.2.2.2).symm.trans h1.all.2.2.2.2.2.2.2.2.2.2.2.2
            injection this
          subst e
          exact ⟨v', g1, g2, g3, g4⟩
        clear o o1 o2 o3 F HM HS lb n0 n1 n2 hcp
        go_wp2_with fail
        clear r00 r01 r10 r11 r20 r21
        go_loopw [35] (fun I wi => ∃ j : Nat, j ≤ 3 ∧ I = .int .i64 j ∧ Hid (Pb W0 (L ++ K) b (stgP q m j) (stgZ q m zs' j) wi)) (fun I _ => 3 - (intOf I).toNat)
        case atStart => exact ⟨0, by omega, rfl, P6⟩
        case round =>
          obtain ⟨j, hj, rfl, Pj⟩ := hrel
          by_cases hlt : j < 3
          · have hj3 : j = 0 ∨ j = 1 ∨ j = 2 := by omega
            rcases hj3 with rfl | rfl | rfl
            · go_wp2_with (refine wpList_index_agg rfl 66 _ _ rfl 63 3 2 _ #[(.func (.func 67) #[] #[.pointer (some ⟨s1, 0, none⟩)]), (.func (.func 68) #[] #[.pointer (some ⟨s1, 0, none⟩), .pointer (some ⟨s1 + 1, 0, none⟩)])] .i64 ((0 : Nat) : Int) _ rfl rfl Tryd.underlying66 (by decide) (by decide) Tryd.underlying63 rfl (by kernel_rfl) (by kernel_rfl) ?_)
              refine (HC0.out _ (Pj.out.more ((Up.refl _).alloc _))).mono ?_
              rintro e w7 ⟨rfl, h7⟩
              have P7 : Hid (Pb W0 (L ++ K) b (stgP q m 1) (stgZ q m zs' 1) w7) := h7
              clear h7 Pj HC0 HC1 HC2
              go_wp2_with fail
              go_roundw
              case rel => exact ⟨1, by omega, rfl, P7⟩
              case measure => simp [intOf]
            · go_wp2_with (refine wpList_index_agg rfl 66 _ _ rfl 63 3 2 _ #[(.func (.func 34) #[] #[.pointer (some ⟨cp, 0, none⟩)]), (.func (.func 36) #[] #[.pointer (some ⟨cp, 0, none⟩)])] .i64 ((1 : Nat) : Int) _ rfl rfl Tryd.underlying66 (by decide) (by decide) Tryd.underlying63 rfl (by kernel_rfl) (by kernel_rfl) ?_)
              refine (HC1.out _ (Pj.out.more ((Up.refl _).alloc _))).mono ?_
              rintro e w7 ⟨rfl, h7⟩
              have P7 : Hid (Pb W0 (L ++ K) b (stgP q m 2) (stgZ q m zs' 2) w7) := h7
              clear h7 Pj HC0 HC1 HC2
              go_wp2_with fail
              go_roundw
              case rel => exact ⟨2, by omega, rfl, P7⟩
              case measure => simp [intOf]
            · go_wp2_with (refine wpList_index_agg rfl 66 _ _ rfl 63 3 2 _ #[(.func (.func 67) #[] #[.pointer (some ⟨s2, 0, none⟩)]), (.func (.func 68) #[] #[.pointer (some ⟨s2, 0, none⟩), .pointer (some ⟨s2 + 1, 0, none⟩)])] .i64 ((2 : Nat) : Int) _ rfl rfl Tryd.underlying66 (by decide) (by decide) Tryd.underlying63 rfl (by kernel_rfl) (by kernel_rfl) ?_)
              refine (HC2.out _ (Pj.out.more ((Up.refl _).alloc _))).mono ?_
              rintro e w7 ⟨rfl, h7⟩
              have P7 : Hid (Pb W0 (L ++ K) b (stgP q m 3) (stgZ q m zs' 3) w7) := h7
              clear h7 Pj HC0 HC1 HC2
              go_wp2_with fail
              go_roundw
              case rel => exact ⟨3, by omega, rfl, P7⟩
              case measure => simp [intOf]
          · have hje : j = 3 := by omega
            subst hje
            clear HC0 HC1 HC2
            go_wp2_with fail
            go_roundw
            case rel => exact ⟨c' - m, q.pass m, q.passZ m zs', rfl, by omega, by omega, HR.out.trans HR2.out, Pj⟩
            case measure => simp [intOf]; omega
      · have dc : decide (0 < c') = false := decide_eq_false hc
        go_wp2_with fail
        go_ret
        have : c' = 0 := by omega
        subst this
        refine ⟨rfl, ?_⟩
        rw [HR.out]
        exact HP.out.loseL
  refine wp_region_held_drew (S := fun w' => w'.cell? ⟨W.heap.size, 0, none⟩ = some (.pointer (some ⟨b, 0, none⟩))) (by kernel_rfl) ?_ (fun hHeld => ?_)
  · (try dsimp only); first | exact kc | go_keep
  refine wpAnyH_take (i := 0) (v := ?_) (by simp only [List.getElem?_toArray, List.getElem?_cons_zero]; rfl) (by kernel_rfl) (by kernel_rfl) (by kernel_rfl) (by intro _ _ _ h; exact h) (Or.inl ⟨by rfl, ?_⟩) (by assumption) ?_
  rotate_left
  · (intro w hSw; (try dsimp only at hSw); go_simp <;> with_reducible rfl)
  try simp only [Act.put, List.setIfInBounds_toArray, List.set_cons_zero, List.set_cons_succ]
  refine wpAnyH_take (i := 1) (v := ?_) (by simp only [List.getElem?_toArray, List.getElem?_cons_succ, List.getElem?_cons_zero]; rfl) (by kernel_rfl) (by kernel_rfl) (by kernel_rfl) (by intro _ _ _ h; exact h) (Or.inl ⟨by rfl, ?_⟩) (by assumption) ?_
  rotate_left
  · (intro w hSw; (try dsimp only at hSw); go_simp <;> with_reducible rfl)
  try simp only [Act.put, List.setIfInBounds_toArray, List.set_cons_zero, List.set_cons_succ]
  refine wpAnyH_take (i := 2) (v := ?_) (by simp only [List.getElem?_toArray, List.getElem?_cons_succ, List.getElem?_cons_zero]; rfl) (by kernel_rfl) (by kernel_rfl) (by kernel_rfl) (by intro _ _ _ h; exact h) (Or.inl ⟨by rfl, ?_⟩) (by assumption) ?_
  rotate_left
  · (intro w hSw; (try dsimp only at hSw); go_simp <;> with_reducible rfl)
  try simp only [Act.put, List.setIfInBounds_toArray, List.set_cons_zero, List.set_cons_succ]
  refine wpAnyH_take (i := 3) (v := ?_) (by simp only [List.getElem?_toArray, List.getElem?_cons_succ, List.getElem?_cons_zero]; rfl) (by kernel_rfl) (by kernel_rfl) (by kernel_rfl) (by intro _ _ _ h; exact h) (Or.inl ⟨by rfl, ?_⟩) (by assumption) ?_
  rotate_left
  · (intro w hSw; (try dsimp only at hSw); go_simp <;> with_reducible rfl)
  try simp only [Act.put, List.setIfInBounds_toArray, List.set_cons_zero, List.set_cons_succ]
  refine wpAnyH_take (i := 5) (v := ?_) (by simp only [List.getElem?_toArray, List.getElem?_cons_succ, List.getElem?_cons_zero]; rfl) (by kernel_rfl) (by kernel_rfl) (by kernel_rfl) (by intro _ _ _ h; exact h) (Or.inl ⟨by rfl, ?_⟩) (by assumption) ?_
  rotate_left
  · (intro w hSw; (try dsimp only at hSw); go_simp <;> with_reducible rfl)
  try simp only [Act.put, List.setIfInBounds_toArray, List.set_cons_zero, List.set_cons_succ]
  refine wpAnyH_take (i := 6) (v := ?_) (by simp only [List.getElem?_toArray, List.getElem?_cons_succ, List.getElem?_cons_zero]; rfl) (by kernel_rfl) (by kernel_rfl) (by kernel_rfl) (by intro _ _ _ h; exact h) (Or.inl ⟨by rfl, ?_⟩) (by assumption) ?_
  rotate_left
  · (intro w hSw; (try dsimp only at hSw); go_simp <;> with_reducible rfl)
  try simp only [Act.put, List.setIfInBounds_toArray, List.set_cons_zero, List.set_cons_succ]
  refine wpAnyH_take (i := 7) (v := ?_) (by simp only [List.getElem?_toArray, List.getElem?_cons_succ, List.getElem?_cons_zero]; rfl) (by kernel_rfl) (by kernel_rfl) (by kernel_rfl) (by intro _ _ _ h; exact h) (Or.inl ⟨by rfl, ?_⟩) (by assumption) ?_
  rotate_left
  · (intro w hSw; (try dsimp only at hSw); go_simp <;> with_reducible rfl)
  try simp only [Act.put, List.setIfInBounds_toArray, List.set_cons_zero, List.set_cons_succ]
  refine wpAnyH_take (i := 8) (v := ?_) (by simp only [List.getElem?_toArray, List.getElem?_cons_succ, List.getElem?_cons_zero]; rfl) (by kernel_rfl) (by kernel_rfl) (by kernel_rfl) (by intro _ _ _ h; exact h) (Or.inl ⟨by rfl, ?_⟩) (by assumption) ?_
  rotate_left
  · (intro w hSw; (try dsimp only at hSw); go_simp <;> with_reducible rfl)
  try simp only [Act.put, List.setIfInBounds_toArray, List.set_cons_zero, List.set_cons_succ]
  refine wpAnyH_take (i := 9) (v := ?_) (by simp only [List.getElem?_toArray, List.getElem?_cons_succ, List.getElem?_cons_zero]; rfl) (by kernel_rfl) (by kernel_rfl) (by kernel_rfl) (by intro _ _ _ h; exact h) (Or.inl ⟨by rfl, ?_⟩) (by assumption) ?_
  rotate_left
  · (intro w hSw; (try dsimp only at hSw); go_simp <;> with_reducible rfl)
  try simp only [Act.put, List.setIfInBounds_toArray, List.set_cons_zero, List.set_cons_succ]
  refine wpAnyH_take (i := 10) (v := ?_) (by simp only [List.getElem?_toArray, List.getElem?_cons_succ, List.getElem?_cons_zero]; rfl) (by kernel_rfl) (by kernel_rfl) (by kernel_rfl) (by intro _ _ _ h; exact h) (Or.inl ⟨by rfl, ?_⟩) (by assumption) ?_
  rotate_left
  · (intro w hSw; (try dsimp only at hSw); go_simp <;> with_reducible rfl)
  try simp only [Act.put, List.setIfInBounds_toArray, List.set_cons_zero, List.set_cons_succ]
  refine wpAnyH_take (i := 11) (v := ?_) (by simp only [List.getElem?_toArray, List.getElem?_cons_succ, List.getElem?_cons_zero]; rfl) (by kernel_rfl) (by kernel_rfl) (by kernel_rfl) (by intro _ _ _ h; exact h) (Or.inl ⟨by rfl, ?_⟩) (by assumption) ?_
  rotate_left
  · (intro w hSw; (try dsimp only at hSw); go_simp <;> with_reducible rfl)
  try simp only [Act.put, List.setIfInBounds_toArray, List.set_cons_zero, List.set_cons_succ]
  generalize hw1 : World.drew _ = w1 at hHeld ⊢
  have u1 : Up W w1 := by rw [← hw1]; exact ((Up.refl W).alloc _).drew
  have z1 : Hid (w1.heap.size = W.heap.size + 1) := by show _ = _; rw [← hw1]; simp
  clear hw1
  refine wpAnyH_ready (rs := [4, 14]) (by kernel_rfl) (by simp) ?_
  refine AllReadyH.cons (by simp only [List.getElem?_toArray, List.getElem?_cons_succ, List.getElem?_cons_zero]; rfl) (fun K hK => ?_) ?_
  · go_simp
    refine (countdown_lit (b := b) _ _ _ w1 _ rfl).mono ?_
    rintro e w2 ⟨rfl, cd2⟩
    have hHeld2 := (cd2.up.cell (World.block_lt_of_cell? _ _ hHeld)).trans hHeld
    have u2 := u1.trans cd2.up
    have z2 : Hid _ := cd2.size
    have ha2 := cd2.a
    have hc2 := cd2.c
    clear cd2
    refine hK.out _ _ hHeld2 (fun _ => ?_)
    clear hK K
    try simp only [Act.put, List.setIfInBounds_toArray, List.set_cons_zero, List.set_cons_succ]
    refine wpAnyH_ready (rs := [12, 14]) (by kernel_rfl) (by simp) ?_
    refine AllReadyH.cons (by simp only [List.getElem?_toArray, List.getElem?_cons_succ, List.getElem?_cons_zero]; rfl) (fun K hK => ?_) ?_
    · go_simp
      refine (countdown_lit (b := b) _ _ _ w2 _ rfl).mono ?_
      rintro e w3 ⟨rfl, cd3⟩
      have hHeld3 := (cd3.up.cell (World.block_lt_of_cell? _ _ hHeld2)).trans hHeld2
      have u3 := u2.trans cd3.up
      have z3 : Hid _ := cd3.size
      have ha3 := (cd3.up.cell (World.block_lt_of_cell? _ _ ha2)).trans ha2
      have hc3 := (cd3.up.cell (World.block_lt_of_cell? _ _ hc2)).trans hc2
      have ht3 := cd3.a
      have htt3 := cd3.c
      clear cd3
      refine hK.out _ _ hHeld3 (fun _ => ?_)
      clear hK K
      try simp only [Act.put, List.setIfInBounds_toArray, List.set_cons_zero, List.set_cons_succ]
      refine wpAnyH_take (i := 13) (v := ?_) (by simp only [List.getElem?_toArray, List.getElem?_cons_succ, List.getElem?_cons_zero]; rfl) (by kernel_rfl) (by kernel_rfl) (by kernel_rfl) (by intro _ _ _ h; exact h) (Or.inl ⟨by rfl, ?_⟩) (by assumption) ?_
      rotate_left
      · (intro w hSw; (try dsimp only at hSw); go_simp <;> with_reducible rfl)
      try simp only [Act.put, List.setIfInBounds_toArray, List.set_cons_zero, List.set_cons_succ]
      refine wpAnyH_ready (rs := [14]) (by kernel_rfl) (by simp) ?_
      refine AllReadyH.cons (by simp only [List.getElem?_toArray, List.getElem?_cons_succ, List.getElem?_cons_zero]; rfl) (fun K hK => ?_) AllReadyH.nil
      go_simp
      have th4 := there6 w3 66
      have v4 : Up w3 (w3.alloc (.cells #[.nilFunc, .nilFunc, .nilFunc, .nilFunc, .nilFunc, .nilFunc] 66)) := (Up.refl _).alloc _
      have zz4 : (w3.alloc (.cells #[.nilFunc, .nilFunc, .nilFunc, .nilFunc, .nilFunc, .nilFunc] 66)).heap.size = w3.heap.size + 1 := by simp
      generalize World.alloc w3 _ = w4 at th4 v4 zz4 ⊢
      have z4 : Hid _ := zz4
      clear zz4
      have hHeld4 := (v4.cell (World.block_lt_of_cell? _ _ hHeld3)).trans hHeld3
      have u4 := u3.trans v4
      have ha4 := (v4.cell (World.block_lt_of_cell? _ _ ha3)).trans ha3
      have hc4 := (v4.cell (World.block_lt_of_cell? _ _ hc3)).trans hc3
      have ht4 := (v4.cell (World.block_lt_of_cell? _ _ ht3)).trans ht3
      have htt4 := (v4.cell (World.block_lt_of_cell? _ _ htt3)).trans htt3
      refine hK.out _ _ hHeld4 (fun _ => ?_)
      clear hK K
      try simp only [Act.put, List.setIfInBounds_toArray, List.set_cons_zero, List.set_cons_succ]
      refine wpAnyH_ready (rs := [15]) (by kernel_rfl) (by simp) ?_
      refine AllReadyH.cons (by simp only [List.getElem?_toArray, List.getElem?_cons_succ, List.getElem?_cons_zero]; rfl) (fun K hK => ?_) AllReadyH.nil
      rw [if_pos (by rfl)]
      refine wp_store_mid _ _ _ rfl w3.heap.size 0 #[duL W.heap.size w1.heap.size w2.heap.size 0, duP W.heap.size w1.heap.size w2.heap.size 0, duL W.heap.size w1.heap.size w2.heap.size 1, duP W.heap.size w1.heap.size w2.heap.size 1, duL W.heap.size w1.heap.size w2.heap.size 2, duP W.heap.size w1.heap.size w2.heap.size 2] rfl rfl ?_ (by kernel_rfl) (one6 _ _ _) ?_
      · exact th4
      have md : Made b w3.heap.size W.heap.size w1.heap.size w2.heap.size W _ := made_end (b := b) (wX := w4) ⟨hHeld4, ha4, hc4, ht4, htt4⟩ (by have := z1.out; have := z2.out; have := z3.out; have := z4.out; omega) (by have := z1.out; have := z2.out; have := z3.out; have := z4.out; omega) (by have := z1.out; have := z2.out; have := z3.out; have := z4.out; omega) (by have := z1.out; have := z2.out; have := z3.out; have := z4.out; omega) (by have := z1.out; have := z2.out; have := z3.out; have := z4.out; omega) th4 u4 (by have := z1.out; have := z2.out; have := z3.out; have := z4.out; omega) (by have := z1.out; have := z2.out; have := z3.out; have := z4.out; omega) (by have := z1.out; have := z2.out; have := z3.out; have := z4.out; omega) (by have := z1.out; have := z2.out; have := z3.out; have := z4.out; omega)
      refine hK.out _ _ ?_ (fun hHeld => ?_)
      · exact md.du.c
      clear hK K hHeld
      simp only [Act.put]
      refine wpAnyH_done (by kernel_rfl) ?_ _
      exact HM.out _ _ _ _ md
    refine AllReadyH.cons (by simp only [List.getElem?_toArray, List.getElem?_cons_succ, List.getElem?_cons_zero]; rfl) (fun K hK => ?_) AllReadyH.nil
    go_simp
    have th3 := there6 w2 66
    have v3 : Up w2 (w2.alloc (.cells #[.nilFunc, .nilFunc, .nilFunc, .nilFunc, .nilFunc, .nilFunc] 66)) := (Up.refl _).alloc _
    have zz3 : (w2.alloc (.cells #[.nilFunc, .nilFunc, .nilFunc, .nilFunc, .nilFunc, .nilFunc] 66)).heap.size = w2.heap.size + 1 := by simp
    generalize World.alloc w2 _ = w3 at th3 v3 zz3 ⊢
    have z3 : Hid _ := zz3
    clear zz3
    have hHeld3 := (v3.cell (World.block_lt_of_cell? _ _ hHeld2)).trans hHeld2
    have u3 := u2.trans v3
    have ha3 := (v3.cell (World.block_lt_of_cell? _ _ ha2)).trans ha2
    have hc3 := (v3.cell (World.block_lt_of_cell? _ _ hc2)).trans hc2
    refine hK.out _ _ hHeld3 (fun _ => ?_)
    clear hK K
    try simp only [Act.put, List.setIfInBounds_toArray, List.set_cons_zero, List.set_cons_succ]
    refine wpAnyH_ready (rs := [12]) (by kernel_rfl) (by simp) ?_
    refine AllReadyH.cons (by simp only [List.getElem?_toArray, List.getElem?_cons_succ, List.getElem?_cons_zero]; rfl) (fun K hK => ?_) AllReadyH.nil
    go_simp
    refine (countdown_lit (b := b) _ _ _ w3 _ rfl).mono ?_
    rintro e w4 ⟨rfl, cd4⟩
    have hHeld4 := (cd4.up.cell (World.block_lt_of_cell? _ _ hHeld3)).trans hHeld3
    have u4 := u3.trans cd4.up
    have z4 : Hid _ := cd4.size
    have ha4 := (cd4.up.cell (World.block_lt_of_cell? _ _ ha3)).trans ha3
    have hc4 := (cd4.up.cell (World.block_lt_of_cell? _ _ hc3)).trans hc3
    have ht4 := cd4.a
    have htt4 := cd4.c
    have th4 := there_up cd4.up th3 (by have := z1.out; have := z2.out; have := z3.out; omega)
    clear cd4
    refine hK.out _ _ hHeld4 (fun _ => ?_)
    clear hK K
    try simp only [Act.put, List.setIfInBounds_toArray, List.set_cons_zero, List.set_cons_succ]
    refine wpAnyH_take (i := 13) (v := ?_) (by simp only [List.getElem?_toArray, List.getElem?_cons_succ, List.getElem?_cons_zero]; rfl) (by kernel_rfl) (by kernel_rfl) (by kernel_rfl) (by intro _ _ _ h; exact h) (Or.inl ⟨by rfl, ?_⟩) (by assumption) ?_
    rotate_left
    · (intro w hSw; (try dsimp only at hSw); go_simp <;> with_reducible rfl)
    try simp only [Act.put, List.setIfInBounds_toArray, List.set_cons_zero, List.set_cons_succ]
    refine wpAnyH_ready (rs := [15]) (by kernel_rfl) (by simp) ?_
    refine AllReadyH.cons (by simp only [List.getElem?_toArray, List.getElem?_cons_succ, List.getElem?_cons_zero]; rfl) (fun K hK => ?_) AllReadyH.nil
    rw [if_pos (by rfl)]
    refine wp_store_mid _ _ _ rfl w2.heap.size 0 #[duL W.heap.size w1.heap.size w3.heap.size 0, duP W.heap.size w1.heap.size w3.heap.size 0, duL W.heap.size w1.heap.size w3.heap.size 1, duP W.heap.size w1.heap.size w3.heap.size 1, duL W.heap.size w1.heap.size w3.heap.size 2, duP W.heap.size w1.heap.size w3.heap.size 2] rfl rfl ?_ (by kernel_rfl) (one6 _ _ _) ?_
    · exact th4
    have md : Made b w2.heap.size W.heap.size w1.heap.size w3.heap.size W _ := made_end (b := b) (wX := w4) ⟨hHeld4, ha4, hc4, ht4, htt4⟩ (by have := z1.out; have := z2.out; have := z3.out; have := z4.out; omega) (by have := z1.out; have := z2.out; have := z3.out; have := z4.out; omega) (by have := z1.out; have := z2.out; have := z3.out; have := z4.out; omega) (by have := z1.out; have := z2.out; have := z3.out; have := z4.out; omega) (by have := z1.out; have := z2.out; have := z3.out; have := z4.out; omega) th4 u4 (by have := z1.out; have := z2.out; have := z3.out; have := z4.out; omega) (by have := z1.out; have := z2.out; have := z3.out; have := z4.out; omega) (by have := z1.out; have := z2.out; have := z3.out; have := z4.out; omega) (by have := z1.out; have := z2.out; have := z3.out; have := z4.out; omega)
    refine hK.out _ _ ?_ (fun hHeld => ?_)
    · exact md.du.c
    clear hK K hHeld
    simp only [Act.put]
    refine wpAnyH_done (by kernel_rfl) ?_ _
    exact HM.out _ _ _ _ md
  refine AllReadyH.cons (by simp only [List.getElem?_toArray, List.getElem?_cons_succ, List.getElem?_cons_zero]; rfl) (fun K hK => ?_) AllReadyH.nil
  go_simp
  have th2 := there6 w1 66
  have v2 : Up w1 (w1.alloc (.cells #[.nilFunc, .nilFunc, .nilFunc, .nilFunc, .nilFunc, .nilFunc] 66)) := (Up.refl _).alloc _
  have zz2 : (w1.alloc (.cells #[.nilFunc, .nilFunc, .nilFunc, .nilFunc, .nilFunc, .nilFunc] 66)).heap.size = w1.heap.size + 1 := by simp
  generalize World.alloc w1 _ = w2 at th2 v2 zz2 ⊢
  have z2 : Hid _ := zz2
  clear zz2
  have hHeld2 := (v2.cell (World.block_lt_of_cell? _ _ hHeld)).trans hHeld
  have u2 := u1.trans v2
  refine hK.out _ _ hHeld2 (fun _ => ?_)
  clear hK K
  try simp only [Act.put, List.setIfInBounds_toArray, List.set_cons_zero, List.set_cons_succ]
  refine wpAnyH_ready (rs := [4]) (by kernel_rfl) (by simp) ?_
  refine AllReadyH.cons (by simp only [List.getElem?_toArray, List.getElem?_cons_succ, List.getElem?_cons_zero]; rfl) (fun K hK => ?_) AllReadyH.nil
  go_simp
  refine (countdown_lit (b := b) _ _ _ w2 _ rfl).mono ?_
  rintro e w3 ⟨rfl, cd3⟩
  have hHeld3 := (cd3.up.cell (World.block_lt_of_cell? _ _ hHeld2)).trans hHeld2
  have u3 := u2.trans cd3.up
  have z3 : Hid _ := cd3.size
  have ha3 := cd3.a
  have hc3 := cd3.c
  have th3 := there_up cd3.up th2 (by have := z1.out; have := z2.out; omega)
  clear cd3
  refine hK.out _ _ hHeld3 (fun _ => ?_)
  clear hK K
  try simp only [Act.put, List.setIfInBounds_toArray, List.set_cons_zero, List.set_cons_succ]
  refine wpAnyH_ready (rs := [12]) (by kernel_rfl) (by simp) ?_
  refine AllReadyH.cons (by simp only [List.getElem?_toArray, List.getElem?_cons_succ, List.getElem?_cons_zero]; rfl) (fun K hK => ?_) AllReadyH.nil
  go_simp
  refine (countdown_lit (b := b) _ _ _ w3 _ rfl).mono ?_
  rintro e w4 ⟨rfl, cd4⟩
  have hHeld4 := (cd4.up.cell (World.block_lt_of_cell? _ _ hHeld3)).trans hHeld3
  have u4 := u3.trans cd4.up
  have z4 : Hid _ := cd4.size
  have ha4 := (cd4.up.cell (World.block_lt_of_cell? _ _ ha3)).trans ha3
  have hc4 := (cd4.up.cell (World.block_lt_of_cell? _ _ hc3)).trans hc3
  have ht4 := cd4.a
  have htt4 := cd4.c
  have th4 := there_up cd4.up th3 (by have := z1.out; have := z2.out; have := z3.out; omega)
  clear cd4
  refine hK.out _ _ hHeld4 (fun _ => ?_)
  clear hK K
  try simp only [Act.put, List.setIfInBounds_toArray, List.set_cons_zero, List.set_cons_succ]
  refine wpAnyH_take (i := 13) (v := ?_) (by simp only [List.getElem?_toArray, List.getElem?_cons_succ, List.getElem?_cons_zero]; rfl) (by kernel_rfl) (by kernel_rfl) (by kernel_rfl) (by intro _ _ _ h; exact h) (Or.inl ⟨by rfl, ?_⟩) (by assumption) ?_
  rotate_left
  · (intro w hSw; (try dsimp only at hSw); go_simp <;> with_reducible rfl)
  try simp only [Act.put, List.setIfInBounds_toArray, List.set_cons_zero, List.set_cons_succ]
  refine wpAnyH_ready (rs := [15]) (by kernel_rfl) (by simp) ?_
  refine AllReadyH.cons (by simp only [List.getElem?_toArray, List.getElem?_cons_succ, List.getElem?_cons_zero]; rfl) (fun K hK => ?_) AllReadyH.nil
  rw [if_pos (by rfl)]
  refine wp_store_mid _ _ _ rfl w1.heap.size 0 #[duL W.heap.size w2.heap.size w3.heap.size 0, duP W.heap.size w2.heap.size w3.heap.size 0, duL W.heap.size w2.heap.size w3.heap.size 1, duP W.heap.size w2.heap.size w3.heap.size 1, duL W.heap.size w2.heap.size w3.heap.size 2, duP W.heap.size w2.heap.size w3.heap.size 2] rfl rfl ?_ (by kernel_rfl) (one6 _ _ _) ?_
  · exact th4
  have md : Made b w1.heap.size W.heap.size w2.heap.size w3.heap.size W _ := made_end (b := b) (wX := w4) ⟨hHeld4, ha4, hc4, ht4, htt4⟩ (by have := z1.out; have := z2.out; have := z3.out; have := z4.out; omega) (by have := z1.out; have := z2.out; have := z3.out; have := z4.out; omega) (by have := z1.out; have := z2.out; have := z3.out; have := z4.out; omega) (by have := z1.out; have := z2.out; have := z3.out; have := z4.out; omega) (by have := z1.out; have := z2.out; have := z3.out; have := z4.out; omega) th4 u4 (by have := z1.out; have := z2.out; have := z3.out; have := z4.out; omega) (by have := z1.out; have := z2.out; have := z3.out; have := z4.out; omega) (by have := z1.out; have := z2.out; have := z3.out; have := z4.out; omega) (by have := z1.out; have := z2.out; have := z3.out; have := z4.out; omega)
  refine hK.out _ _ ?_ (fun hHeld => ?_)
  · exact md.du.c
  clear hK K hHeld
  simp only [Act.put]
  refine wpAnyH_done (by kernel_rfl) ?_ _
  exact HM.out _ _ _ _ md
end Go.Proofs.YteomldlmdpphaaaDoor
