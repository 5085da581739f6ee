/- What the laws of the cpu share: pick, bounded, started, cycles, instructions, memories -/
import Derived.Test.YtdkibohpdkdooaaGreatDoorCq
import Derived.Laws.OwnMore
import Derived.OwnWalk
/- The laws' own small calls, over the translation. -/
namespace Go.Proofs.YtdkibohpdkdooaaGreatDoor
open Go.RowKit
set_option linter.unusedVariables false
def I64 (x : Int) : Prop := -9223372036854775808 ≤ x ∧ x ≤ 9223372036854775807
set_option maxRecDepth 100000 in
theorem pick_any (c n : Int) (w : World) (hc : I64 c) (hn : 0 < n) (hn2 : n ≤ 1099511627776) :
    Calls Tryz.prog 11 #[.int .i64 c, .int .i64 n] w fun e w' => e = .returned (.int .i64 (pickI c n)) ∧ w' = w := by
  obtain ⟨hc1, hc2⟩ := hc
  by_cases h : c < 0
  · go_enter Tryz.func11, Tryz.ntmps11
    go_wp2
    go_ret
    exact ⟨ret1 (by unfold pickI; rw [if_pos h, ← Int.neg_tmod, Int.tmod_eq_emod_of_nonneg (by omega)]), rfl⟩
  · go_enter Tryz.func11, Tryz.ntmps11
    go_wp2
    go_ret
    exact ⟨ret1 (by unfold pickI; rw [if_neg (by omega)]), rfl⟩
theorem heap_new2 (w : World) (o p : Obj) : ((w.alloc o).alloc p).heap[w.heap.size + 1]? = some p := by
  have := heap_alloc_new (w.alloc o) p
  simpa using this
def bnd (g : Rg) : Rg := ⟨pickI g.a 256, pickI g.f 256 / 16 * 16, pickI g.b 256, pickI g.c 256, pickI g.d 256, pickI g.e 256, pickI g.h 256, pickI g.l 256, pickI g.sp 65536, pickI g.pc 65536, g.ime, 0⟩
structure Rg.In (g : Rg) : Prop where
  a : I64 g.a
  f : I64 g.f
  b : I64 g.b
  c : I64 g.c
  d : I64 g.d
  e : I64 g.e
  h : I64 g.h
  l : I64 g.l
  sp : I64 g.sp
  pc : I64 g.pc
theorem pick256 (c : Int) : 0 ≤ pickI c 256 ∧ pickI c 256 ≤ 255 := by
  have h1 := pickI_lo c 256 (by decide)
  have h2 := pickI_hi c 256 (by decide)
  omega
theorem pick65536 (c : Int) : 0 ≤ pickI c 65536 ∧ pickI c 65536 ≤ 65535 := by
  have h1 := pickI_lo c 65536 (by decide)
  have h2 := pickI_hi c 65536 (by decide)
  omega
theorem bnd_ok (g : Rg) : (bnd g).Ok :=
  { a := pick256 _, f := by have := pick256 g.f; show 0 ≤ pickI g.f 256 / 16 * 16 ∧ pickI g.f 256 / 16 * 16 ≤ 255; omega, f16 := by show pickI g.f 256 / 16 * 16 % 16 = 0; omega, b := pick256 _, c := pick256 _, d := pick256 _, e := pick256 _, h := pick256 _, l := pick256 _, sp := pick65536 _, pc := pick65536 _, state := (show (0 : Int) ≤ 0 ∧ (0 : Int) ≤ 3 by decide) }
theorem pick_ok (g : Rg) (o : g.Ok) (hs : g.state = 0) : bnd g = g := by
  have p256 : ∀ x : Int, 0 ≤ x ∧ x ≤ 255 → pickI x 256 = x := fun x hx => by unfold pickI; rw [if_neg (by omega)]; omega
  have p65 : ∀ x : Int, 0 ≤ x ∧ x ≤ 65535 → pickI x 65536 = x := fun x hx => by unfold pickI; rw [if_neg (by omega)]; omega
  obtain ⟨a, f, b, c, d, e, h, l, sp, pc, ime, st⟩ := g
  have hf : f / 16 * 16 = f := by have := o.f16; simp only at this; omega
  simp only at hs
  simp only [bnd, p256 _ o.a, p256 _ o.f, p256 _ o.b, p256 _ o.c, p256 _ o.d, p256 _ o.e, p256 _ o.h, p256 _ o.l, p65 _ o.sp, p65 _ o.pc, hf, hs]
set_option maxRecDepth 100000 in
set_option maxHeartbeats 1000000 in
theorem bounded_any (g : Rg) (i : g.In) (w : World) :
    Calls Tryz.prog 4 #[.agg g.cells] w fun e w' => e = .returned (.agg (bnd g).cells) ∧ Up w w' := by
  obtain ⟨a, f, b, c, d, e, h, l, sp, pc, ime, st⟩ := g
  obtain ⟨ia, jf, ib, ic, id, ie, ih, il, isp, ipc⟩ := i
  have pf := pick256 f
  have pf1 := pf.1
  have pf2 := pf.2
  have hpf : (pickI f 256).tdiv 16 = pickI f 256 / 16 := Int.tdiv_eq_ediv_of_nonneg pf1
  simp only at ia jf ib ic id ie ih il isp ipc
  have HP : Hid (∀ x n W, I64 x → 0 < n → n ≤ 65536 → Calls Tryz.prog 11 #[.int .i64 x, .int .i64 n] W fun e w' => e = .returned (.int .i64 (pickI x n)) ∧ w' = W) := fun x n W hx h0 h1 => pick_any x n W hx h0 (by omega)
  have HI : Hid (I64 a ∧ I64 f ∧ I64 b ∧ I64 c ∧ I64 d ∧ I64 e ∧ I64 h ∧ I64 l ∧ I64 sp ∧ I64 pc) := ⟨ia, jf, ib, ic, id, ie, ih, il, isp, ipc⟩
  clear pf ia jf ib ic id ie ih il isp ipc
  unfold Rg.cells bnd
  simp only
  go_enter Tryz.func4, Tryz.ntmps4
  go_wp2_with (first
    | (go_at_call 11; refine (HP.out _ _ _ (by obtain ⟨q1, q2, q3, q4, q5, q6, q7, q8, q9, q10⟩ := HI.out; assumption) (by decide) (by decide)).mono ?_; rintro e w' ⟨rfl, rfl⟩))
  refine bodyPost_ret (v := .agg _) (results_row Tryz.results4 _ _ _ 23 _ (0, 0) _ rfl (heap_new2 w _ _) Tryz.underlying23 rfl (by kernel_rfl)) rfl ⟨rfl, ((Up.refl w).alloc _).alloc _⟩
end Go.Proofs.YtdkibohpdkdooaaGreatDoor

/- A processor with registers, over the translation. -/
namespace Go.Proofs.YtdkibohpdkdooaaGreatDoor
open Go.RowKit
set_option linter.unusedVariables false
theorem rgNew (w2 : World) (G : Rg) : ∀ W3 old, (w2.alloc (.cells old 23)).setRow w2.heap.size G.cells = W3 → W3.heap[w2.heap.size]? = some (.cells G.cells 23 (0, 0)) ∧ Up w2 W3 := by
  rintro W3 old rfl
  exact ⟨setRow_heap _ _ _ _ _ _ (heap_alloc_new w2 _), ((Up.refl w2).alloc _).setRow (Nat.le_refl _) _⟩
theorem newRg_ok : newRg.Ok := ⟨by decide, by decide, by decide, by decide, by decide, by decide, by decide, by decide, by decide, by decide, by decide, by decide⟩
theorem rgOne (g : Rg) : g.cells.all (·.oneCell') = true := by simp [Rg.cells, Value.oneCell']
set_option maxRecDepth 100000 in
set_option maxHeartbeats 1000000 in
theorem started_any (g : Rg) (i : g.In) (w : World) :
    Calls Tryz.prog 5 #[.agg g.cells] w fun e w' => ∃ b, e = .returned (.pointer (some ⟨b, 0, none⟩)) ∧ w.heap.size ≤ b ∧ Cp w' b (ofRg (bnd g)) ∧ Up w w' := by
  have HB : Hid (∀ W, Calls Tryz.prog 4 #[.agg #[.int .i64 g.a, .int .i64 g.f, .int .i64 g.b, .int .i64 g.c, .int .i64 g.d, .int .i64 g.e, .int .i64 g.h, .int .i64 g.l, .int .i64 g.sp, .int .i64 g.pc, .bool g.ime, .int .i64 g.state]] W fun e w' => e = .returned (.agg (bnd g).cells) ∧ Up W w') := fun W => bounded_any g i W
  have o := bnd_ok g
  have hi := ofRg_inv (bnd g) o
  have hn := (ofRg_inv newRg newRg_ok).ok
  generalize bnd g = G at HB o hi ⊢
  have HS : Hid (∀ b W, Cp W b (ofRg newRg) → Calls Tryz.prog 15 #[.pointer (some ⟨b, 0, none⟩), .agg #[.int .i64 G.a, .int .i64 G.f, .int .i64 G.b, .int .i64 G.c, .int .i64 G.d, .int .i64 G.e, .int .i64 G.h, .int .i64 G.l, .int .i64 G.sp, .int .i64 G.pc, .bool G.ime, .int .i64 G.state]] W fun e w' => e = .returned (.int .i64 0) ∧ Cp w' b (ofRg G) ∧ Fr b W w') := fun b W hW => set_ok G o b (ofRg newRg) W hW hn rfl
  have HBo : Hid (∀ b W, Cp W b (ofRg G) → Calls Tryz.prog 9 #[.pointer (some ⟨b, 0, none⟩)] W fun e w' => e = .returned (.bool true) ∧ ∃ n, w' = W.drewN n) := fun b W hW => boundary_any b (ofRg G) W hW hi.ok
  have HRe : Hid (∀ b W, Cp W b (ofRg G) → Calls Tryz.prog 10 #[.pointer (some ⟨b, 0, none⟩)] W fun e w' => e = .returned (.agg G.cells) ∧ Up W w') := fun b W hW => regs_any b (ofRg G) W hW hi.ok
  clear hi hn o i
  go_enter Tryz.func5, Tryz.ntmps5
  go_wp2_with (first
    | (go_at_call 14; refine (new_any _).mono ?_; rintro e w1 ⟨rfl, h1, hu1⟩
       have hg1 : w1.heap[w.heap.size]? = some (.cells g.cells 23 (0, 0)) := (hu1.block _ (by simp)).trans (heap_alloc_new w _)
       have h1' : Cp w1 (w.heap.size + 1) (ofRg newRg) := by simpa using h1
       have u1 : Up w w1 := ((Up.refl w).alloc _).trans hu1
       obtain ⟨q0, q1, q2, q3, q4, q5, q6, q7, q8, q9, q10, q11⟩ := regBlock g hg1
       clear hu1 hg1 h1)
    | (go_at_call 4; refine (HB.out _).mono ?_; rintro e w2 ⟨rfl, hu2⟩
       have h2 := h1'.up hu2
       have u2 := u1.trans hu2
       have HN2 : Hid (∀ o, (w2.alloc o).heap[w2.heap.size]? = some o) := heap_alloc_new w2
       have HX2 : Hid _ := rgNew w2 G
       have hs2 : w.heap.size + 1 < w2.heap.size := h2.lt
       clear hu2 h1' u1 q0 q1 q2 q3 q4 q5 q6 q7 q8 q9 q10 q11)
    | (refine wpList_store_rowTo rfl 23 _ _ rfl rfl w2.heap.size G.cells rfl rfl 23 #[.int .i64 0, .int .i64 0, .int .i64 0, .int .i64 0, .int .i64 0, .int .i64 0, .int .i64 0, .int .i64 0, .int .i64 0, .int .i64 0, .bool false, .int .i64 0] (HN2.out _) (by kernel_rfl) rfl (rgOne G) ?_
       generalize hW3 : World.setRow _ _ _ = W3
       obtain ⟨hg3, hu3⟩ := HX2.out W3 _ hW3
       have h3 := h2.up hu3
       have u3 := u2.trans hu3
       have hl3 : w2.heap.size < W3.heap.size := (Array.getElem?_eq_some_iff.1 hg3).1
       obtain ⟨r0, r1, r2, r3, r4, r5, r6, r7, r8, r9, r10, r11⟩ := regBlock G hg3
       have HG3 : Hid _ := hg3
       clear hW3 hu3 hg3 h2 u2 HX2 HN2)
    | (go_at_call 15; refine (HS.out _ _ (by exact h3)).mono ?_; rintro e w4 ⟨rfl, h4, F4⟩
       have u4 : Up w w4 := Fr.up u3 (by omega) F4
       have hg4 : w4.heap[w2.heap.size]? = some (.cells G.cells 23 (0, 0)) := (F4.block _ hl3 (by omega)).trans HG3.out
       have hl4 : w2.heap.size < w4.heap.size := (Array.getElem?_eq_some_iff.1 hg4).1
       clear F4 u3 h3 r0 r1 r2 r3 r4 r5 r6 r7 r8 r9 r10 r11)
    | (go_at_call 9; refine (HBo.out _ _ (by exact h4)).mono ?_; rintro e w' ⟨rfl, n, rfl⟩)
    | (go_at_call 10; refine (HRe.out _ _ (by exact h4)).mono ?_; rintro e w6 ⟨rfl, hu6⟩
       have u46 : Up w4 w6 := (Up.drewN w4 _).trans hu6
       have h6 := h4.up u46
       have u6 := u4.trans u46
       have hg6 : w6.heap[w2.heap.size]? = some (.cells G.cells 23 (0, 0)) := (u46.block _ hl4).trans hg4
       have hl6 : w2.heap.size < w6.heap.size := (Array.getElem?_eq_some_iff.1 hg6).1
       have HN6 : Hid (∀ o, (w6.alloc o).heap[w6.heap.size]? = some o) := heap_alloc_new w6
       have HX6 : Hid _ := rgNew w6 G
       clear hu6 u46 h4 u4 hg4)
    | (refine wpList_store_rowTo rfl 23 _ _ rfl rfl w6.heap.size G.cells rfl rfl 23 #[.int .i64 0, .int .i64 0, .int .i64 0, .int .i64 0, .int .i64 0, .int .i64 0, .int .i64 0, .int .i64 0, .int .i64 0, .int .i64 0, .bool false, .int .i64 0] (HN6.out _) (by kernel_rfl) rfl (rgOne G) ?_
       generalize hW7 : World.setRow _ _ _ = W7
       obtain ⟨hg7, hu7⟩ := HX6.out W7 _ hW7
       have h7 := h6.up hu7
       have u7 := u6.trans hu7
       obtain ⟨s0, s1, s2, s3, s4, s5, s6, s7, s8, s9, s10, s11⟩ := regBlock G hg7
       obtain ⟨r0, r1, r2, r3, r4, r5, r6, r7, r8, r9, r10, r11⟩ := regBlock G ((hu7.block _ hl6).trans hg6)
       clear hW7 hu7 hg7 h6 u6 HX6 HN6 hg6))
  go_ret
  exact ⟨_, rfl, by omega, h7, u7⟩
end Go.Proofs.YtdkibohpdkdooaaGreatDoor

/- One cycle on a memory, over the translation. -/
namespace Go.Proofs.YtdkibohpdkdooaaGreatDoor
open Go.RowKit
set_option linter.unusedVariables false
/-- a memory of 65536 bytes -/
def Mem (w : World) (g : Nat) (f : Nat → Int) : Prop := g < w.heap.size ∧ ∀ i, i < 65536 → w.cell? ⟨g, i, none⟩ = some (.int .u8 (f i)) ∧ w.frozen? ⟨g, i, none⟩ = false
def Byt (f : Nat → Int) : Prop := ∀ i, 0 ≤ f i ∧ f i ≤ 255
/-- all but two blocks -/
structure Fr2 (b g : Nat) (w w' : World) : Prop where
  os : w'.os = w.os
  output : w'.output = w.output
  size : w.heap.size ≤ w'.heap.size
  block : ∀ k, k < w.heap.size → k ≠ b → k ≠ g → w'.heap[k]? = w.heap[k]?
theorem Fr2.refl (b g : Nat) (w : World) : Fr2 b g w w := ⟨rfl, rfl, Nat.le_refl _, fun _ _ _ _ => rfl⟩
theorem Fr2.trans {b g : Nat} {x y z : World} (h : Fr2 b g x y) (k : Fr2 b g y z) : Fr2 b g x z :=
  ⟨k.os.trans h.os, k.output.trans h.output, Nat.le_trans h.size k.size, fun j hj hb hg => (k.block j (Nat.lt_of_lt_of_le hj h.size) hb hg).trans (h.block j hj hb hg)⟩
theorem Fr2.ofUp {b g : Nat} {x y : World} (h : Up x y) : Fr2 b g x y := ⟨h.os, h.output, h.size, fun j hj _ _ => h.block j hj⟩
theorem Fr2.ofFr {b g : Nat} {x y : World} (h : Fr b x y) : Fr2 b g x y := ⟨h.os, h.output, h.size, fun j hj hb _ => h.block j hj hb⟩
theorem Fr2.ofFrg {b g : Nat} {x y : World} (h : Fr g x y) : Fr2 b g x y := ⟨h.os, h.output, h.size, fun j hj _ hg => h.block j hj hg⟩
theorem Mem.of_block {w w' : World} {g : Nat} {f : Nat → Int} (h : Mem w g f) (hs : w.heap.size ≤ w'.heap.size) (hb : w'.heap[g]? = w.heap[g]?) : Mem w' g f := by
  refine ⟨Nat.lt_of_lt_of_le h.1 hs, fun i hi => ?_⟩
  rw [← (h.2 i hi).1, ← (h.2 i hi).2]
  unfold World.cell? World.frozen?
  rw [show w'.heap[(⟨g, i, none⟩ : Addr).block]? = w.heap[(⟨g, i, none⟩ : Addr).block]? from hb]
  exact ⟨rfl, rfl⟩
theorem Mem.up {w w' : World} {g : Nat} {f : Nat → Int} (h : Mem w g f) (u : Up w w') : Mem w' g f := h.of_block u.size (u.block g h.1)
theorem Mem.fr {w w' : World} {b g : Nat} {f : Nat → Int} (h : Mem w g f) (u : Fr b w w') (hb : g ≠ b) : Mem w' g f := h.of_block u.size (u.block g h.1 hb)
theorem Mem.set {w : World} {g : Nat} {f : Nat → Int} (h : Mem w g f) (i : Nat) (hi : i < 65536) (v : Int) : Mem (w.setCell ⟨g, i, none⟩ (.int .u8 v)) g (upd f i v) := by
  refine ⟨by simpa using h.1, fun k hk => ?_⟩
  refine ⟨?_, by rw [World.frozen?_setCell]; exact (h.2 k hk).2⟩
  unfold upd
  by_cases e : k = i
  · subst e
    rw [if_pos rfl]
    have := (h.2 k hk).1
    exact World.cell?_setCell_same (h := this) ..
  · rw [if_neg e, show (w.setCell ⟨g, i, none⟩ (.int .u8 v)).cell? ⟨g, k, none⟩ = w.cell? ⟨g, k, none⟩ from World.cell?_setCell_other (h := by intro h; injection h with h1 h2; omega) ..]
    exact (h.2 k hk).1
def St.rdV (s : St) (f : Nat → Int) : Int := if wantsK s.next = 1 then f (s.at s.next).toNat else 0
def St.wrM (s : St) (f : Nat → Int) : Nat → Int := if wantsK s.next = 2 then upd f (s.at s.next).toNat (s.data s.next) else f
set_option maxRecDepth 100000 in
set_option maxHeartbeats 1000000 in
theorem cycle_idle (l : Int) (b g : Nat) (s : St) (f : Nat → Int) (w : World) (h : Cp w b s) (v : s.Inv) (hL : Lb b w) (hm : Mem w g f) (hf : Byt f) (hgb : g ≠ b) (hg0 : g ≠ 0) (hl : I64 l) (hk : wantsK s.next = 0) :
    Calls Tryz.prog 13 #[.pointer (some ⟨b, 0, none⟩), .slice (some ⟨g, 0, none⟩) 65536 65536, .int .i64 l] w fun e w' => e = .returned (.int .i64 (s.tick 0 l).2) ∧ Cp w' b (s.tick 0 l).1 ∧ Mem w' g f ∧ Fr2 b g w w' := by
  have ha := at_b s v.ok s.next
  have ha1 := ha.1
  have ha2 : s.at s.next < 65536 := by have := ha.2; omega
  have hd := data_b s v.ok s.next
  have hpk : pickI (s.at s.next) 65536 = s.at s.next := by unfold pickI; rw [if_neg (by omega)]; omega
  have HP : Hid (∀ W, Calls Tryz.prog 11 #[.int .i64 (s.at s.next), .int .i64 65536] W fun e w' => e = .returned (.int .i64 (s.at s.next)) ∧ w' = W) := fun W => by
    have := pick_any (s.at s.next) 65536 W (by unfold I64; omega) (by decide) (by decide)
    rw [hpk] at this
    exact this
  have HWa : Hid (Calls Tryz.prog 17 #[.pointer (some ⟨b, 0, none⟩)] w fun e w' => e = .returned (.agg #[.int .i64 0, .int .i64 (s.at s.next), .int .i64 (s.data s.next)]) ∧ Up w w') := by
    have := want_any b s w h v.ok hL
    rw [hk] at this
    exact this
  have hi : (s.at s.next).toNat < 65536 := by omega
  generalize s.at s.next = A at *
  generalize s.data s.next = D at *
  have hd1 := hd.1
  have hd2 := hd.2
  have hDm : D % 256 = D := by omega
  clear hpk ha hk
  go_enter Tryz.func13, Tryz.ntmps13
  go_wp2_with (first
    | (go_at_call 17; refine HWa.out.mono ?_; rintro e w1 ⟨rfl, hu1⟩
       have h1 := h.up hu1
       have L1 := hL.up hu1
       have m1 := hm.up hu1
       have hgl := m1.1
       have hbl := h1.lt
       obtain ⟨x, hx⟩ : ∃ x, x = f A.toNat := ⟨_, rfl⟩
       have cm : w1.cell? ⟨g, A.toNat, none⟩ = some (.int .u8 x) := by rw [hx]; exact (m1.2 _ hi).1
       have fm : w1.frozen? ⟨g, A.toNat, none⟩ = false := (m1.2 _ hi).2
       have hx1 : 0 ≤ x := by rw [hx]; exact (hf _).1
       have hx2 : x ≤ 255 := by rw [hx]; exact (hf _).2
       have HX : Hid (f A.toNat = x) := hx.symm
       clear hx)
    | (go_at_call 11; refine (HP.out _).mono ?_; rintro e w' ⟨rfl, rfl⟩)
    | (go_at_call 18; refine (tick_any 0 l b s _ (by exact h1.up ((Up.refl w1).alloc _)) v (by exact L1.up ((Up.refl w1).alloc _)) hl).mono ?_; rintro e w3 ⟨rfl, h3, F3⟩))
  go_ret
  exact ⟨rfl, h3, (m1.up ((Up.refl w1).alloc _)).fr F3 hgb, (Fr2.ofUp (hu1.alloc _)).trans (Fr2.ofFr F3)⟩
set_option maxRecDepth 100000 in
set_option maxHeartbeats 1000000 in
theorem cycle_read (l : Int) (b g : Nat) (s : St) (f : Nat → Int) (w : World) (h : Cp w b s) (v : s.Inv) (hL : Lb b w) (hm : Mem w g f) (hf : Byt f) (hgb : g ≠ b) (hg0 : g ≠ 0) (hl : I64 l) (hk : wantsK s.next = 1) :
    Calls Tryz.prog 13 #[.pointer (some ⟨b, 0, none⟩), .slice (some ⟨g, 0, none⟩) 65536 65536, .int .i64 l] w fun e w' => e = .returned (.int .i64 (s.tick (f (s.at s.next).toNat) l).2) ∧ Cp w' b (s.tick (f (s.at s.next).toNat) l).1 ∧ Mem w' g f ∧ Fr2 b g w w' := by
  have ha := at_b s v.ok s.next
  have ha1 := ha.1
  have ha2 : s.at s.next < 65536 := by have := ha.2; omega
  have hd := data_b s v.ok s.next
  have hpk : pickI (s.at s.next) 65536 = s.at s.next := by unfold pickI; rw [if_neg (by omega)]; omega
  have HP : Hid (∀ W, Calls Tryz.prog 11 #[.int .i64 (s.at s.next), .int .i64 65536] W fun e w' => e = .returned (.int .i64 (s.at s.next)) ∧ w' = W) := fun W => by
    have := pick_any (s.at s.next) 65536 W (by unfold I64; omega) (by decide) (by decide)
    rw [hpk] at this
    exact this
  have HWa : Hid (Calls Tryz.prog 17 #[.pointer (some ⟨b, 0, none⟩)] w fun e w' => e = .returned (.agg #[.int .i64 1, .int .i64 (s.at s.next), .int .i64 (s.data s.next)]) ∧ Up w w') := by
    have := want_any b s w h v.ok hL
    rw [hk] at this
    exact this
  have hi : (s.at s.next).toNat < 65536 := by omega
  generalize s.at s.next = A at *
  generalize s.data s.next = D at *
  have hd1 := hd.1
  have hd2 := hd.2
  have hDm : D % 256 = D := by omega
  clear hpk ha hk
  go_enter Tryz.func13, Tryz.ntmps13
  go_wp2_with (first
    | (go_at_call 17; refine HWa.out.mono ?_; rintro e w1 ⟨rfl, hu1⟩
       have h1 := h.up hu1
       have L1 := hL.up hu1
       have m1 := hm.up hu1
       have hgl := m1.1
       have hbl := h1.lt
       obtain ⟨x, hx⟩ : ∃ x, x = f A.toNat := ⟨_, rfl⟩
       have cm : w1.cell? ⟨g, A.toNat, none⟩ = some (.int .u8 x) := by rw [hx]; exact (m1.2 _ hi).1
       have fm : w1.frozen? ⟨g, A.toNat, none⟩ = false := (m1.2 _ hi).2
       have hx1 : 0 ≤ x := by rw [hx]; exact (hf _).1
       have hx2 : x ≤ 255 := by rw [hx]; exact (hf _).2
       have HX : Hid (f A.toNat = x) := hx.symm
       clear hx)
    | (go_at_call 11; refine (HP.out _).mono ?_; rintro e w' ⟨rfl, rfl⟩)
    | (go_at_call 18; refine (tick_any x l b s _ (by exact h1.up ((Up.refl w1).alloc _)) v (by exact L1.up ((Up.refl w1).alloc _)) hl).mono ?_; rintro e w3 ⟨rfl, h3, F3⟩))
  rw [HX.out]
  go_ret
  exact ⟨rfl, h3, (m1.up ((Up.refl w1).alloc _)).fr F3 hgb, (Fr2.ofUp (hu1.alloc _)).trans (Fr2.ofFr F3)⟩
end Go.Proofs.YtdkibohpdkdooaaGreatDoor

/- One cycle that writes, over the translation. -/
namespace Go.Proofs.YtdkibohpdkdooaaGreatDoor
open Go.RowKit
set_option linter.unusedVariables false
set_option maxRecDepth 100000 in
set_option maxHeartbeats 1000000 in
theorem cycle_write (l : Int) (b g : Nat) (s : St) (f : Nat → Int) (w : World) (h : Cp w b s) (v : s.Inv) (hL : Lb b w) (hm : Mem w g f) (hf : Byt f) (hgb : g ≠ b) (hg0 : g ≠ 0) (hl : I64 l) (hk : wantsK s.next = 2) :
    Calls Tryz.prog 13 #[.pointer (some ⟨b, 0, none⟩), .slice (some ⟨g, 0, none⟩) 65536 65536, .int .i64 l] w fun e w' => e = .returned (.int .i64 (s.tick 0 l).2) ∧ Cp w' b (s.tick 0 l).1 ∧ Mem w' g (upd f (s.at s.next).toNat (s.data s.next)) ∧ Fr2 b g w w' := by
  have ha := at_b s v.ok s.next
  have ha1 := ha.1
  have ha2 : s.at s.next < 65536 := by have := ha.2; omega
  have hd := data_b s v.ok s.next
  have hpk : pickI (s.at s.next) 65536 = s.at s.next := by unfold pickI; rw [if_neg (by omega)]; omega
  have HP : Hid (∀ W, Calls Tryz.prog 11 #[.int .i64 (s.at s.next), .int .i64 65536] W fun e w' => e = .returned (.int .i64 (s.at s.next)) ∧ w' = W) := fun W => by
    have := pick_any (s.at s.next) 65536 W (by unfold I64; omega) (by decide) (by decide)
    rw [hpk] at this
    exact this
  have HWa : Hid (Calls Tryz.prog 17 #[.pointer (some ⟨b, 0, none⟩)] w fun e w' => e = .returned (.agg #[.int .i64 2, .int .i64 (s.at s.next), .int .i64 (s.data s.next)]) ∧ Up w w') := by
    have := want_any b s w h v.ok hL
    rw [hk] at this
    exact this
  have hi : (s.at s.next).toNat < 65536 := by omega
  generalize s.at s.next = A at *
  generalize s.data s.next = D at *
  have hd1 := hd.1
  have hd2 := hd.2
  have hDm : D % 256 = D := by omega
  clear hpk ha hk
  go_enter Tryz.func13, Tryz.ntmps13
  go_wp2_with (first
    | (go_at_call 17; refine HWa.out.mono ?_; rintro e w1 ⟨rfl, hu1⟩
       have h1 := h.up hu1
       have L1 := hL.up hu1
       have m1 := hm.up hu1
       have hgl := m1.1
       have hbl := h1.lt
       obtain ⟨x, hx⟩ : ∃ x, x = f A.toNat := ⟨_, rfl⟩
       have cm : w1.cell? ⟨g, A.toNat, none⟩ = some (.int .u8 x) := by rw [hx]; exact (m1.2 _ hi).1
       have fm : w1.frozen? ⟨g, A.toNat, none⟩ = false := (m1.2 _ hi).2
       have hx1 : 0 ≤ x := by rw [hx]; exact (hf _).1
       have hx2 : x ≤ 255 := by rw [hx]; exact (hf _).2
       have HX : Hid (f A.toNat = x) := hx.symm
       clear hx)
    | (go_at_call 11; refine (HP.out _).mono ?_; rintro e w' ⟨rfl, rfl⟩))
  generalize hW : World.alloc w1 _ = W
  have uW : Up w1 W := by rw [← hW]; exact (Up.refl w1).alloc _
  have z1 : W.cell? ⟨w1.heap.size, 1, none⟩ = some (.int .i64 A) := by rw [← hW]; simp
  have z2 : W.cell? ⟨w1.heap.size, 2, none⟩ = some (.int .i64 D) := by rw [← hW]; simp
  have h2 := h1.up uW
  have L2 := L1.up uW
  have m2 := m1.up uW
  have hne : g ≠ w1.heap.size := by omega
  have cW : W.cell? ⟨g, A.toNat, none⟩ = some (.int .u8 x) := by rw [HX.out.symm]; exact (m2.2 _ hi).1
  have fW : W.frozen? ⟨g, A.toNat, none⟩ = false := (m2.2 _ hi).2
  have HM : Hid (Mem W g f) := m2
  have HU : Hid (Up w W) := hu1.trans uW
  clear hW cm fm m1 m2 uW
  go_region_held3 (fun w' => w'.cell? ⟨w1.heap.size, 1, none⟩ = some (.int .i64 A) ∧ w'.cell? ⟨w1.heap.size, 2, none⟩ = some (.int .i64 D))
    (first | exact ⟨z1, z2⟩ | trivial | exact ⟨trivial, trivial⟩ | go_keep | (refine ⟨?_, ?_⟩ <;> (rw [World.cell?_setCell_far _ _ _ _ hne]; first | exact z1 | exact z2)))
    (first | (go_at_call 11; refine (HP.out _).mono ?_; rintro e w' ⟨rfl, rfl⟩))
  try rw [IntKind.wrap_u8]
  try rw [hDm]
  generalize hW4 : World.setCell _ _ _ = W4
  have h4 : Cp W4 b s := by rw [← hW4]; exact (Cp.fr (c := g) h2 (by first | exact Fr.setCell (Fr.ofUp (Up.drewN W _)) | exact Fr.setCell (Fr.ofUp ((Up.refl W).drew)) | exact Fr.setCell (Fr.refl g W)) (Ne.symm hgb))
  have F4 : Fr g W W4 := by rw [← hW4]; first | exact Fr.setCell (Fr.ofUp (Up.drewN W _)) | exact Fr.setCell (Fr.ofUp ((Up.refl W).drew)) | exact Fr.setCell (Fr.refl g W)
  have L4 : Lb b W4 := ⟨L2.1.fr F4 hg0, L2.2⟩
  have m4 : Mem W4 g (upd f A.toNat D) := by
    rw [← hW4]
    exact Mem.set (by exact HM.out) A.toNat hi D
  clear hW4 z1 z2 cW fW
  go_wp2_with (first
    | (go_at_call 18; refine (tick_any 0 l b s _ (by exact h4) v (by exact L4) hl).mono ?_; rintro e w5 ⟨rfl, h5, F5⟩))
  go_ret
  have F5' : Fr b W4 w5 := by first | exact F5 | exact (Fr.ofUp ((Up.refl W4).drew)).trans F5 | exact (Fr.ofUp (Up.drewN W4 _)).trans F5
  exact ⟨rfl, h5, m4.fr F5' hgb, (Fr2.ofUp HU.out).trans ((Fr2.ofFrg F4).trans (Fr2.ofFr F5'))⟩
/-- one cycle -/
theorem cycle_any (l : Int) (b g : Nat) (s : St) (f : Nat → Int) (w : World) (h : Cp w b s) (v : s.Inv) (hL : Lb b w) (hm : Mem w g f) (hf : Byt f) (hgb : g ≠ b) (hg0 : g ≠ 0) (hl : I64 l) :
    Calls Tryz.prog 13 #[.pointer (some ⟨b, 0, none⟩), .slice (some ⟨g, 0, none⟩) 65536 65536, .int .i64 l] w fun e w' => e = .returned (.int .i64 (s.tick (s.rdV f) l).2) ∧ Cp w' b (s.tick (s.rdV f) l).1 ∧ Mem w' g (s.wrM f) ∧ Fr2 b g w w' := by
  have hk : wantsK s.next = 0 ∨ wantsK s.next = 1 ∨ wantsK s.next = 2 := by unfold wantsK; (repeat' split) <;> simp
  unfold St.rdV St.wrM
  rcases hk with hk | hk | hk
  · rw [if_neg (by omega), if_neg (by omega)]
    exact cycle_idle l b g s f w h v hL hm hf hgb hg0 hl hk
  · rw [if_pos hk, if_neg (by omega)]
    exact cycle_read l b g s f w h v hL hm hf hgb hg0 hl hk
  · rw [if_neg (by omega), if_pos hk]
    exact cycle_write l b g s f w h v hL hm hf hgb hg0 hl hk
end Go.Proofs.YtdkibohpdkdooaaGreatDoor

/- Instructions on a memory, over the translation. -/
namespace Go.Proofs.YtdkibohpdkdooaaGreatDoor
open Go.RowKit
set_option linter.unusedVariables false
abbrev Pm := St × (Nat → Int)
def cyc (p : Pm) : Pm := ((p.1.tick (p.1.rdV p.2) 0).1, p.1.wrM p.2)
def cycN : Nat → Pm → Pm
  | 0, p => p
  | n + 1, p => cyc (cycN n p)
theorem wrM_byt (s : St) (o : s.Ok) (f : Nat → Int) (hf : Byt f) : Byt (s.wrM f) := by
  unfold St.wrM
  split
  · exact upd_ok hf _ _ (data_b s o _)
  · exact hf
theorem cyc_inv (p : Pm) (v : p.1.Inv) (hf : Byt p.2) : (cyc p).1.Inv ∧ Byt (cyc p).2 := ⟨tick_inv p.1 v _ _, wrM_byt p.1 v.ok p.2 hf⟩
theorem cycN_inv (p : Pm) (v : p.1.Inv) (hf : Byt p.2) : ∀ n, (cycN n p).1.Inv ∧ Byt (cycN n p).2
  | 0 => ⟨v, hf⟩
  | n + 1 => cyc_inv _ (cycN_inv p v hf n).1 (cycN_inv p v hf n).2
/-- one instruction of k cycles -/
structure Ins (p : Pm) (k : Nat) (q : Pm) : Prop where
  k1 : 1 ≤ k
  k7 : k ≤ 7
  eq : cycN k p = q
  fin : q.1.phase = 0
  mid : ∀ j, 1 ≤ j → j < k → (cycN j p).1.phase ≠ 0
def tot (kc : Nat → Nat) : Nat → Nat
  | 0 => 0
  | n + 1 => tot kc n + kc n
theorem tot_le (kc : Nat → Nat) (h : ∀ i, kc i ≤ 7) : ∀ n, tot kc n ≤ 7 * n
  | 0 => Nat.le_refl _
  | n + 1 => by have := tot_le kc h n; have := h n; unfold tot; omega
set_option maxRecDepth 100000 in
set_option maxHeartbeats 1000000 in
theorem runs_any (n : Nat) (hn : n ≤ 1000) (st : Nat → Pm) (kc : Nat → Nat) (b g : Nat) (w : World) (h : Cp w b (st 0).1) (v : (st 0).1.Inv) (hL : Lb b w) (hm : Mem w g (st 0).2) (hf : Byt (st 0).2) (hgb : g ≠ b) (hg0 : g ≠ 0)
    (hc : ∀ i, i < n → Ins (st i) (kc i) (st (i + 1))) (hk7 : ∀ i, kc i ≤ 7) :
    Calls Tryz.prog 8 #[.pointer (some ⟨b, 0, none⟩), .slice (some ⟨g, 0, none⟩) 65536 65536, .int .i64 n] w fun e w' => e = .returned (.tuple #[.int .i64 (tot kc n), .bool true]) ∧ Cp w' b (st n).1 ∧ Mem w' g (st n).2 ∧ Fr2 b g w w' := by
  have HC : Hid (∀ i, i < n → Ins (st i) (kc i) (st (i + 1))) := hc
  have HV : Hid (∀ i, i ≤ n → (st i).1.Inv ∧ Byt (st i).2) := by
    intro i
    induction i with
    | zero => exact fun _ => ⟨v, hf⟩
    | succ i ih =>
      intro hi
      have := ih (by omega)
      rw [← (hc i (by omega)).eq]
      exact cycN_inv _ this.1 this.2 _
  have HL : Hid (∀ w', Fr2 b g w w' → Lb b w') := fun w' F => by
    refine ⟨?_, hL.2⟩
    refine ⟨Nat.lt_of_lt_of_le hL.1.1 F.size, fun i hi => ?_⟩
    rw [← hL.1.2 i hi]
    unfold World.cell?
    rw [show (w'.heap[(⟨0, i, none⟩ : Addr).block]?) = w.heap[(⟨0, i, none⟩ : Addr).block]? from F.block 0 hL.1.1 (fun e => hL.2 e.symm) (fun e => hg0 e.symm)]
  have HT : Hid (∀ i, tot kc i ≤ 7 * i) := tot_le kc hk7
  have HK : Hid (∀ i, kc i ≤ 7) := hk7
  have HM : Hid (Mem w g (st 0).2) := hm
  have HG : Hid (g ≠ b ∧ g ≠ 0) := ⟨hgb, hg0⟩
  clear hc hm hL v hf hk7 hgb hg0
  go_enter Tryz.func8, Tryz.ntmps8
  go_wp2_with fail
  have HH : Hid (Cp w b (st 0).1) := h
  clear h
  go_loopw [8, 9] (fun A I wr => ∃ i : Nat, i ≤ n ∧ A = .int .i64 (tot kc i) ∧ I = .int .i64 i ∧ Hid (Cp wr b (st i).1 ∧ Mem wr g (st i).2 ∧ Fr2 b g w wr)) (fun _ I _ => n - (intOf I).toNat)
  case atStart => exact ⟨0, by omega, rfl, rfl, HH.out, HM.out, Fr2.refl b g w⟩
  case round =>
    obtain ⟨i, hi, rfl, rfl, hS⟩ := hrel
    have hti : tot kc i ≤ 7000 := by have := HT.out i; omega
    by_cases hlt : i < n
    · have hI : Hid _ := HC.out i hlt
      have hV : Hid _ := HV.out i hi
      have hki : decide ((i : Int) < (n : Int)) = true := decide_eq_true (by omega)
      have hkc := HK.out i
      have hk1 := hI.out.k1
      obtain ⟨T, hT⟩ : ∃ T, T = tot kc i := ⟨_, rfl⟩
      have HTi : Hid (tot kc i = T) := hT.symm
      rw [← hT] at hti ⊢
      clear hT
      go_wp2_with fail
      go_loopw [10, 11] (fun K M wr' => ∃ j : Nat, j ≤ kc i ∧ K = .int .i64 j ∧ M = .bool (decide (j < kc i)) ∧ Hid (Cp wr' b (cycN j (st i)).1 ∧ Mem wr' g (cycN j (st i)).2 ∧ Fr2 b g w wr')) (fun K _ _ => 8 - (intOf K).toNat)
      case atStart => exact ⟨0, by omega, rfl, by rw [decide_eq_true (by omega)], hS⟩
      case round =>
        obtain ⟨j, hj, rfl, rfl, hS2⟩ := hrel
        by_cases hjl : j < kc i
        · rw [decide_eq_true hjl]
          have hvj : Hid _ := cycN_inv (st i) hV.out.1 hV.out.2 j
          have hvj1 : Hid _ := cycN_inv (st i) hV.out.1 hV.out.2 (j + 1)
          have hph : ((cycN (j + 1) (st i)).1.phase == 0) = !(decide (j + 1 < kc i)) := by
            by_cases hl2 : j + 1 < kc i
            · rw [decide_eq_true hl2, beq_eq_false_iff_ne.2 (hI.out.mid (j + 1) (by omega) hl2)]; rfl
            · have e : j + 1 = kc i := by omega
              rw [decide_eq_false hl2, e, hI.out.eq, hI.out.fin]; rfl
          have HPh : Hid _ := hph
          have hj7 : (j : Int) < 7 := by omega
          clear hph
          go_wp2_with (first
            | (go_at_call 13; refine (cycle_any 0 b g (cycN j (st i)).1 (cycN j (st i)).2 _ hS2.out.1 hvj.out.1 (HL.out _ hS2.out.2.2) hS2.out.2.1 hvj.out.2 HG.out.1 HG.out.2 (by unfold I64; decide)).mono ?_; rintro e w2 ⟨rfl, h2, m2, F2⟩
               have h2' : Cp w2 b (cycN (j + 1) (st i)).1 := h2
               have m2' : Mem w2 g (cycN (j + 1) (st i)).2 := m2
               have F2' : Fr2 b g w w2 := hS2.out.2.2.trans F2
               clear h2 m2 F2)
            | (go_at_call 9; refine (boundary_any b (cycN (j + 1) (st i)).1 _ (by exact h2') hvj1.out.1.ok).mono ?_; rw [HPh.out]; rintro e w3 ⟨rfl, n3, rfl⟩))
          go_roundw
          case rel => exact ⟨j + 1, by omega, rfl, by simp, h2', m2', F2'.trans (Fr2.ofUp (Up.drewN w2 _))⟩
          case measure => simp [intOf]; omega
        · have hje : j = kc i := by omega
          subst hje
          rw [decide_eq_false (by omega)]
          have hS3 : Hid (Cp wr b (st (i + 1)).1 ∧ Mem wr g (st (i + 1)).2 ∧ Fr2 b g w wr) := by
            have := hS2.out
            rw [hI.out.eq] at this
            exact this
          go_wp2_with fail
          go_roundw
          case rel => exact ⟨i + 1, by omega, by unfold tot; rw [HTi.out]; simp, rfl, hS3⟩
          case measure => simp [intOf]; omega
    · have hie : i = n := by omega
      subst hie
      go_wp2_with fail
      go_ret2
      exact ⟨rfl, hS.out⟩
end Go.Proofs.YtdkibohpdkdooaaGreatDoor

/- A memory out of pieces, over the translation. -/
namespace Go.Proofs.YtdkibohpdkdooaaGreatDoor
open Go.RowKit
set_option linter.unusedVariables false
structure Pc where
  at_ : Int
  bs : List Int
/-- pieces as they lie -/
structure Pcs (w : World) (gp : Nat) (ps : List Pc) : Prop where
  lt : gp < w.heap.size
  has : ∀ i (h : i < ps.length), I64 ps[i].at_ ∧ ∃ gb, gb < w.heap.size ∧ w.cell? ⟨gp, i * 2, none⟩ = some (.int .i64 ps[i].at_) ∧ (∃ pa cp, w.cell? ⟨gp, i * 2 + 1, none⟩ = some (.slice pa ps[i].bs.length cp) ∧ (0 < ps[i].bs.length → pa = some ⟨gb, 0, none⟩)) ∧ ps[i].bs.length ≤ 1000 ∧ ∀ k (hk : k < ps[i].bs.length), w.cell? ⟨gb, k, none⟩ = some (.int .u8 ps[i].bs[k]) ∧ 0 ≤ ps[i].bs[k] ∧ ps[i].bs[k] ≤ 255
def lay (f : Nat → Int) (a : Int) (bs : List Int) : Nat → Nat → Int
  | 0 => f
  | k + 1 => upd (lay f a bs k) ((pickI a 65536 + k) % 65536).toNat (bs.getD k 0)
def memP (ps : List Pc) : Nat → Nat → Int
  | 0 => fun _ => 0
  | i + 1 => lay (memP ps i) (ps.getD i ⟨0, []⟩).at_ (ps.getD i ⟨0, []⟩).bs (ps.getD i ⟨0, []⟩).bs.length
theorem wj (n : Int) (h0 : 0 ≤ n) (h1 : n ≤ 1000000) : IntKind.i64.wrap n = n := by simp [IntKind.wrap, IntKind.bits, IntKind.signed]; omega
theorem Fr.cellq {g : Nat} {w w' : World} (h : Fr g w w') {p k : Nat} (hp : p < w.heap.size) (hg : p ≠ g) : w'.cell? ⟨p, k, none⟩ = w.cell? ⟨p, k, none⟩ := by
  unfold World.cell?
  rw [show (w'.heap[(⟨p, k, none⟩ : Addr).block]?) = w.heap[(⟨p, k, none⟩ : Addr).block]? from h.block _ hp hg]
set_option maxRecDepth 100000 in
set_option maxHeartbeats 1000000 in
theorem memory_any (gp : Nat) (ps : List Pc) (hn : ps.length ≤ 1000) (w : World) (hp : Pcs w gp ps) :
    Calls Tryz.prog 7 #[.slice (some ⟨gp, 0, none⟩) ps.length ps.length] w fun e w' => e = .returned (.slice (some ⟨w.heap.size, 0, none⟩) 65536 65536) ∧ Mem w' w.heap.size (memP ps ps.length) ∧ Up w w' := by
  obtain ⟨n, hn'⟩ : ∃ n, n = ps.length := ⟨_, rfl⟩
  have HNl : Hid (ps.length = n) := hn'.symm
  have HPc : Hid (Pcs w gp ps) := hp
  have hie : Tryz.prog.info? 5 = some Tryz.t5 := by kernel_rfl
  have hgp := hp.lt
  rw [← hn'] at hn ⊢
  clear hp hn'
  go_enter Tryz.func7, Tryz.ntmps7
  go_wp2_with (refine wpList_make_full _ rfl _ _ 28 rfl 0 5 _ (.int .u8 0) 1 Tryz.underlying28 hie rfl rfl .i64 .i64 65536 65536 65536 rfl rfl rfl rfl (by decide) (by decide) (Nat.zero_le _) ?_)
  intro w1 hown hgr
  have hcell : ∀ i, i < 65536 → w1.cell? ⟨w.heap.size, i, none⟩ = some (.int .u8 0) := fun i hi => by
    rw [hown.cellAt i (by omega), toList_madeCells_one, List.getElem?_replicate, if_pos hi]
  have hlt1 : w.heap.size < w1.heap.size := by
    rcases Nat.lt_or_ge w.heap.size w1.heap.size with h | h
    · exact h
    · have := hcell 0 (by decide)
      unfold World.cell? at this
      rw [show w1.heap[(⟨w.heap.size, 0, none⟩ : Addr).block]? = none from Array.getElem?_eq_none h] at this
      simp at this
  have m1 : Mem w1 w.heap.size (fun _ => 0) := ⟨hlt1, fun i hi => ⟨hcell i hi, hown.frozenAt i⟩⟩
  have F1 : Fr w.heap.size w w1 := ⟨hgr.os, hgr.output, hgr.size, fun k hk hne => hgr.block k hk (by intro e; cases e)⟩
  clear hown hgr hcell
  have HS0 : Hid (Mem w1 w.heap.size (memP ps 0) ∧ Fr w.heap.size w w1) := ⟨m1, F1⟩
  obtain ⟨G, hG⟩ : ∃ G, G = w.heap.size := ⟨_, rfl⟩
  have HGe : Hid (w.heap.size = G) := hG.symm
  have hgG : gp ≠ G := by omega
  rw [← hG] at HS0 ⊢
  clear m1 F1 hG hlt1
  go_wp2_with fail
  go_loopw [4] (fun I wr => ∃ i : Nat, i ≤ n ∧ I = .int .i64 i ∧ Hid (Mem wr G (memP ps i) ∧ Fr G w wr)) (fun I _ => n - (intOf I).toNat)
  case atStart => exact ⟨0, by omega, rfl, HS0⟩
  case round =>
    obtain ⟨i, hi, rfl, hS⟩ := hrel
    by_cases hlt : i < n
    · have hil : i < ps.length := by rw [HNl.out]; exact hlt
      obtain ⟨ha, gb, hgb, ca, ⟨pa, cp, cb, hpa⟩, hbl, hbs⟩ := HPc.out.has i hil
      have hpg : ps.getD i ⟨0, []⟩ = ps[i] := by simp [List.getD, hil]
      have HM1 : Hid (memP ps (i + 1) = lay (memP ps i) ps[i].at_ ps[i].bs ps[i].bs.length) := by show memP ps (i + 1) = _; rw [show memP ps (i + 1) = lay (memP ps i) (ps.getD i ⟨0, []⟩).at_ (ps.getD i ⟨0, []⟩).bs (ps.getD i ⟨0, []⟩).bs.length from rfl, hpg]
      generalize memP ps i = f0 at hS HM1
      generalize ps[i].at_ = a at ha ca HM1
      generalize ps[i].bs = bs at cb hpa hbl hbs HM1
      obtain ⟨m, hm⟩ : ∃ m, m = bs.length := ⟨_, rfl⟩
      have HMl : Hid (bs.length = m) := hm.symm
      have HBs : Hid _ := hbs
      rw [← hm] at cb hbl hpa
      have HPa : Hid _ := hpa
      clear hpa
      have hki : decide ((i : Int) < (n : Int)) = true := decide_eq_true (by omega)
      have hin : (i : Int) < (n : Int) := by omega
      have hbG : gb ≠ G := by rw [← HGe.out]; omega
      have pp := pick65536 a
      have HPk : Hid (∀ W, Calls Tryz.prog 11 #[.int .i64 a, .int .i64 65536] W fun e w' => e = .returned (.int .i64 (pickI a 65536)) ∧ w' = W) := fun W => pick_any a 65536 W ha (by decide) (by decide)
      have HLy : Hid (∀ k, lay f0 a bs (k + 1) = upd (lay f0 a bs k) ((pickI a 65536 + k) % 65536).toNat (bs.getD k 0)) := fun k => rfl
      generalize hP : pickI a 65536 = P at pp HPk HLy
      have pp1 := pp.1
      have pp2 := pp.2
      clear hpg hbs hm pp hP
      have ca1 : wr.cell? ⟨gp, i * 2, none⟩ = some (.int .i64 a) := (hS.out.2.cellq hgp hgG).trans ca
      have cb1 : wr.cell? ⟨gp, i * 2 + 1, none⟩ = some (.slice pa m cp) := (hS.out.2.cellq hgp hgG).trans cb
      go_wp2_with fail
      go_loopw [5] (fun K wr => ∃ k : Nat, k ≤ m ∧ K = .int .i64 k ∧ Hid (Mem wr G (lay f0 a bs k) ∧ Fr G w wr)) (fun K _ => m - (intOf K).toNat)
      case atStart => exact ⟨0, by omega, rfl, hS⟩
      case round =>
        clear ca1 cb1
        obtain ⟨k, hk, rfl, hS2⟩ := hrel
        have ca1 : wr.cell? ⟨gp, i * 2, none⟩ = some (.int .i64 a) := (hS2.out.2.cellq hgp hgG).trans ca
        have cb1 : wr.cell? ⟨gp, i * 2 + 1, none⟩ = some (.slice pa m cp) := (hS2.out.2.cellq hgp hgG).trans cb
        by_cases hkl : k < m
        · have hkb : k < bs.length := by rw [HMl.out]; exact hkl
          obtain ⟨cx, hx1, hx2⟩ := HBs.out k hkb
          have hpa2 := HPa.out (by omega)
          rw [hpa2] at cb1
          clear hpa2
          have hgd : bs.getD k 0 = bs[k] := by simp [List.getD, hkb]
          generalize bs[k] = x at cx hx1 hx2 hgd
          have cx1 : wr.cell? ⟨gb, k, none⟩ = some (.int .u8 x) := (hS2.out.2.cellq hgb hbG).trans cx
          obtain ⟨I, hI⟩ : ∃ I : Int, I = (P + k) % 65536 := ⟨_, rfl⟩
          have hI0 : 0 ≤ I := by omega
          have hI1 : I < 65536 := by omega
          have hIe : (P + (k : Int)) % 65536 = I := hI.symm
          have HSt : Hid (∀ W, Mem W G (lay f0 a bs k) → Mem (W.setCell ⟨G, I.toNat, none⟩ (.int .u8 x)) G (lay f0 a bs (k + 1))) := fun W hW => by
            rw [HLy.out k, hgd, hIe]
            exact hW.set I.toNat (by omega) x
          have cG : wr.cell? ⟨G, I.toNat, none⟩ = some (.int .u8 (lay f0 a bs k I.toNat)) := (hS2.out.1.2 I.toNat (by omega)).1
          have fG : wr.frozen? ⟨G, I.toNat, none⟩ = false := (hS2.out.1.2 I.toNat (by omega)).2
          have hkm : decide ((k : Int) < (m : Int)) = true := decide_eq_true (by omega)
          have hkm' : (k : Int) < (m : Int) := by omega
          have n1 : G ≠ gp := fun e => hgG e.symm
          have n2 : G ≠ gb := fun e => hbG e.symm
          have hIt : (P + (k : Int)).tmod 65536 = I := by rw [Int.tmod_eq_emod_of_nonneg (by omega)]; exact hIe
          have hws : IntKind.i64.wrap (P + (k : Int)) = P + (k : Int) := wj _ (by omega) (by omega)
          have hwI : IntKind.i64.wrap I = I := wi _ (by omega) (by omega)
          clear hgd hI
          go_wp2_with fail
          go_region_held3 (fun w' => w'.cell? ⟨gp, i * 2, none⟩ = some (.int .i64 a) ∧ w'.cell? ⟨gp, i * 2 + 1, none⟩ = some (.slice (some ⟨gb, 0, none⟩) m cp) ∧ w'.cell? ⟨gb, k, none⟩ = some (.int .u8 x))
            (first | exact ⟨ca1, cb1, cx1⟩ | trivial | go_keep | (refine ⟨?_, ?_, ?_⟩ <;> (first | rw [World.cell?_setCell_far _ _ _ _ n1] | rw [World.cell?_setCell_far _ _ _ _ n2]) <;> first | exact ca1 | exact cb1 | exact cx1))
            (first | (go_at_call 11; refine (HPk.out _).mono ?_; rintro e w' ⟨rfl, rfl⟩))
          go_wp2_with fail
          go_roundw
          case rel => exact ⟨k + 1, by omega, rfl, HSt.out _ (by exact hS2.out.1), Fr.drew (Fr.setCell (by exact hS2.out.2))⟩
          case measure => simp [intOf]; omega
        · have hke : k = m := by omega
          subst hke
          have hS3 : Hid (Mem wr G (memP ps (i + 1)) ∧ Fr G w wr) := by
            have := hS2.out
            rw [HM1.out, HMl.out]
            exact this
          have hkm : decide ((k : Int) < (k : Int)) = false := decide_eq_false (by omega)
          go_wp2_with fail
          go_roundw
          case rel => exact ⟨i + 1, by omega, rfl, hS3⟩
          case measure => simp [intOf]; omega
    · have hie : i = n := by omega
      subst hie
      go_wp2_with fail
      go_ret
      refine ⟨by rw [HGe.out]; rfl, by rw [HGe.out]; exact hS.out.1, Fr.up (Up.refl w) (by rw [HGe.out]; exact Nat.le_refl _) hS.out.2⟩
end Go.Proofs.YtdkibohpdkdooaaGreatDoor
