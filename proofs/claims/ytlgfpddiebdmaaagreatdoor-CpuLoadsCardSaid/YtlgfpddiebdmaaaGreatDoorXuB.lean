import Derived.Test.YtlgfpddiebdmaaaGreatDoorXuA
/- Whether a processor may be so, over the translation. No condition. -/
namespace Go.Proofs.YtlgfpddiebdmaaaGreatDoor
open Go.RowKit
set_option linter.unusedVariables false
structure St.Okw (s : St) : Prop where
  r : ∀ k, 0 ≤ s.r k ∧ s.r k ≤ 255
  sp : 0 ≤ s.sp ∧ s.sp ≤ 65535
  pc : 0 ≤ s.pc ∧ s.pc ≤ 65535
  st : 0 ≤ s.state ∧ s.state ≤ 255
structure Rg.Byt (g : Rg) : Prop where
  a : 0 ≤ g.a ∧ g.a ≤ 255
  f : 0 ≤ g.f ∧ g.f ≤ 255
  b : 0 ≤ g.b ∧ g.b ≤ 255
  c : 0 ≤ g.c ∧ g.c ≤ 255
  d : 0 ≤ g.d ∧ g.d ≤ 255
  e : 0 ≤ g.e ∧ g.e ≤ 255
  h : 0 ≤ g.h ∧ g.h ≤ 255
  l : 0 ≤ g.l ∧ g.l ≤ 255
  sp : 0 ≤ g.sp ∧ g.sp ≤ 65535
  pc : 0 ≤ g.pc ∧ g.pc ≤ 65535
  state : 0 ≤ g.state ∧ g.state ≤ 255
theorem andNot240b : ∀ x : Int, 0 ≤ x → x ≤ 255 → bits .andNot .i64 x 240 = x % 16 := byteAll (by decide +kernel)
set_option maxRecDepth 100000 in
set_option maxHeartbeats 1000000 in
theorem told2_any (b : Nat) (s : St) (w : World) (h : Cp w b s) (o : s.Okw) :
    Calls Tryz.prog 27 #[.pointer (some ⟨b, 0, none⟩)] w fun e w' => e = .returned (.agg (toRg s).cells) ∧ Up w w' := by
  have c0 : w.cell? ⟨b, 0, none⟩ = some (.int .u8 (s.r 0)) := h.cell 0
  have c1 : w.cell? ⟨b, 1, none⟩ = some (.int .u8 (s.r 1)) := h.cell 1
  have c2 : w.cell? ⟨b, 2, none⟩ = some (.int .u8 (s.r 2)) := h.cell 2
  have c3 : w.cell? ⟨b, 3, none⟩ = some (.int .u8 (s.r 3)) := h.cell 3
  have c4 : w.cell? ⟨b, 4, none⟩ = some (.int .u8 (s.r 4)) := h.cell 4
  have c5 : w.cell? ⟨b, 5, none⟩ = some (.int .u8 (s.r 5)) := h.cell 5
  have c6 : w.cell? ⟨b, 6, none⟩ = some (.int .u8 (s.r 6)) := h.cell 6
  have c7 : w.cell? ⟨b, 7, none⟩ = some (.int .u8 (s.r 7)) := h.cell 7
  have c8 : w.cell? ⟨b, 8, none⟩ = some (.int .u16 s.sp) := h.cell 8
  have c9 : w.cell? ⟨b, 9, none⟩ = some (.int .u16 s.pc) := h.cell 9
  have c10 : w.cell? ⟨b, 10, none⟩ = some (.bool s.ime) := h.cell 10
  have c11 : w.cell? ⟨b, 11, none⟩ = some (.int .i64 s.state) := h.cell 11
  have hb := h.lt
  have o0 := (o.r 0)
  have o1 := (o.r 1)
  have o2 := (o.r 2)
  have o3 := (o.r 3)
  have o4 := (o.r 4)
  have o5 := (o.r 5)
  have o6 := (o.r 6)
  have o7 := (o.r 7)
  have o8 := o.sp
  have o9 := o.pc
  go_enter Tryz.func27, Tryz.ntmps27
  go_wp2
  generalize hW : World.alloc w _ = W
  have hg : W.heap[w.heap.size]? = some (.cells #[.int .i64 0, .int .i64 0, .int .i64 0, .int .i64 0, .int .i64 0, .int .i64 0, .int .i64 0, .int .i64 0, .int .i64 0, .int .i64 0, .bool false, .int .i64 0] 23 (0, 0)) := by rw [← hW]; exact heap_alloc_new w _
  have u0 : Up w W := by rw [← hW]; exact (Up.refl w).alloc _
  have h0 := h.up u0
  have k0 : W.cell? ⟨b, 0, none⟩ = some (.int .u8 (s.r 0)) := h0.cell 0
  have k1 : W.cell? ⟨b, 1, none⟩ = some (.int .u8 (s.r 1)) := h0.cell 1
  have k2 : W.cell? ⟨b, 2, none⟩ = some (.int .u8 (s.r 2)) := h0.cell 2
  have k3 : W.cell? ⟨b, 3, none⟩ = some (.int .u8 (s.r 3)) := h0.cell 3
  have k4 : W.cell? ⟨b, 4, none⟩ = some (.int .u8 (s.r 4)) := h0.cell 4
  have k5 : W.cell? ⟨b, 5, none⟩ = some (.int .u8 (s.r 5)) := h0.cell 5
  have k6 : W.cell? ⟨b, 6, none⟩ = some (.int .u8 (s.r 6)) := h0.cell 6
  have k7 : W.cell? ⟨b, 7, none⟩ = some (.int .u8 (s.r 7)) := h0.cell 7
  have k8 : W.cell? ⟨b, 8, none⟩ = some (.int .u16 s.sp) := h0.cell 8
  have k9 : W.cell? ⟨b, 9, none⟩ = some (.int .u16 s.pc) := h0.cell 9
  have k10 : W.cell? ⟨b, 10, none⟩ = some (.bool s.ime) := h0.cell 10
  have k11 : W.cell? ⟨b, 11, none⟩ = some (.int .i64 s.state) := h0.cell 11
  have hne : w.heap.size ≠ b := by omega
  have HG : Hid _ := hg
  clear hW hg c0 c1 c2 c3 c4 c5 c6 c7 c8 c9 c10 c11 h
  have HK : Hid _ := h0
  have HO : Hid s.Okw := o
  have HU : Hid _ := u0
  clear o0 o1 o2 o3 o4 o5 o6 o7 o8 o9 o h0 u0
  dsimp only [List.append]
  go_still_tail 67, (by kernel_rfl)
  rw [wi (s.r 0) (HO.out.r 0).1 (Int.le_trans (HO.out.r 0).2 (by decide)), wi (s.r 1) (HO.out.r 1).1 (Int.le_trans (HO.out.r 1).2 (by decide)), wi (s.r 2) (HO.out.r 2).1 (Int.le_trans (HO.out.r 2).2 (by decide)), wi (s.r 3) (HO.out.r 3).1 (Int.le_trans (HO.out.r 3).2 (by decide)), wi (s.r 4) (HO.out.r 4).1 (Int.le_trans (HO.out.r 4).2 (by decide)), wi (s.r 5) (HO.out.r 5).1 (Int.le_trans (HO.out.r 5).2 (by decide)), wi (s.r 6) (HO.out.r 6).1 (Int.le_trans (HO.out.r 6).2 (by decide)), wi (s.r 7) (HO.out.r 7).1 (Int.le_trans (HO.out.r 7).2 (by decide)), wi s.sp HO.out.sp.1 HO.out.sp.2, wi s.pc HO.out.pc.1 HO.out.pc.2]
  refine wpList_store_rowTo rfl 23 _ _ rfl rfl w.heap.size _ rfl rfl 23 #[.int .i64 0, .int .i64 0, .int .i64 0, .int .i64 0, .int .i64 0, .int .i64 0, .int .i64 0, .int .i64 0, .int .i64 0, .int .i64 0, .bool false, .int .i64 0] (by exact HG.out) (by kernel_rfl) rfl (by simp [Value.oneCell']) ?_
  go_wp2
  refine bodyPost_ret (v := .agg (toRg s).cells) (results_row Tryz.results27 _ _ _ 23 _ (0, 0) _ rfl (setRow_heap _ _ #[.int .i64 0, .int .i64 0, .int .i64 0, .int .i64 0, .int .i64 0, .int .i64 0, .int .i64 0, .int .i64 0, .int .i64 0, .int .i64 0, .bool false, .int .i64 0] _ _ _ (by exact HG.out)) Tryz.underlying23 rfl (by kernel_rfl)) rfl ⟨rfl, by exact Up.setRow (w' := { W with drawn := W.drawn + 1 }) ⟨HU.out.os, HU.out.output, HU.out.size, HU.out.block⟩ (Nat.le_refl _) _⟩
set_option maxRecDepth 100000 in
set_option maxHeartbeats 1000000 in
theorem within_f (g : Rg) (o : g.Byt) (hbad : (g.f % 16 == 0) = false) (w : World) :
    Calls Tryz.prog 44 #[.agg g.cells] w fun e w' => e = .returned (.bool false) ∧ Up w w' := by
  obtain ⟨a, f, b, c, d, e, h, l, sp, pc, ime, st⟩ := g
  have ha := o.a
  have hf := o.f
  have hb := o.b
  have hc := o.c
  have hd := o.d
  have he := o.e
  have hh := o.h
  have hl := o.l
  have hsp := o.sp
  have hpc := o.pc
  have hst := o.state
  simp only at ha hf hb hc hd he hh hl hsp hpc hst
  have hand := andNot240b f hf.1 hf.2
  have G8 : Hid _ := get8i a f b c d e h l
  have B8 : Hid _ := get8b a f b c d e h l ha hf hb hc hd he hh hl
  have hsp1 := hsp.1
  have hsp2 := hsp.2
  have hpc1 := hpc.1
  have hpc2 := hpc.2
  have hst1 := hst.1
  simp only at hbad
  clear o ha hf hb hc hd he hh hl hsp hpc hst
  unfold Rg.cells
  go_enter Tryz.func44, Tryz.ntmps44
  go_wp2
  generalize hW : World.alloc w _ = W
  have HU : Hid (Up w W) := by show Up w W; rw [← hW]; exact (Up.refl w).alloc _
  have HG : Hid (W.heap[w.heap.size]? = some (.cells #[.int .i64 a, .int .i64 f, .int .i64 b, .int .i64 c, .int .i64 d, .int .i64 e, .int .i64 h, .int .i64 l, .int .i64 sp, .int .i64 pc, .bool ime, .int .i64 st] 23 (0, 0))) := by show W.heap[w.heap.size]? = _; rw [← hW]; exact heap_alloc_new w _
  have z1 : W.cell? ⟨w.heap.size, 1, none⟩ = some (.int .i64 f) := by rw [cell_of_row _ _ _ _ _ _ HG.out]; rfl
  have z8 : W.cell? ⟨w.heap.size, 8, none⟩ = some (.int .i64 sp) := by rw [cell_of_row _ _ _ _ _ _ HG.out]; rfl
  have z9 : W.cell? ⟨w.heap.size, 9, none⟩ = some (.int .i64 pc) := by rw [cell_of_row _ _ _ _ _ _ HG.out]; rfl
  have z11 : W.cell? ⟨w.heap.size, 11, none⟩ = some (.int .i64 st) := by rw [cell_of_row _ _ _ _ _ _ HG.out]; rfl
  clear hW
  go_loopw [24] (fun i wr => ∃ k : Nat, k ≤ 8 ∧ i = .int .i64 k ∧ wr = W) (fun i _ => 8 - (intOf i).toNat)
  case atStart => exact ⟨0, by omega, rfl, rfl⟩
  case round =>
    obtain ⟨k, hk, rfl, rfl⟩ := hrel
    by_cases hlt : k < 8
    · obtain ⟨x, hx⟩ : ∃ x, x = [a, f, b, c, d, e, h, l].getD k 0 := ⟨_, rfl⟩
      have hix : (Instr.index 107 (.agg #[.int .i64 a, .int .i64 f, .int .i64 b, .int .i64 c, .int .i64 d, .int .i64 e, .int .i64 h, .int .i64 l]) (.int .i64 k)).run Tryz.prog wr = .ok (.int .i64 x) wr := by
        rw [hx]
        exact run_index_one 107 3 8 _ .i64 k _ _ wr Tryz.underlying107 hlt Tryz.underlying3 rfl (by kernel_rfl) (G8.out k hlt)
      have hb := B8.out k hlt
      rw [← hx] at hb
      have hx1 := hb.1
      have hx2 := hb.2
      clear hx hb
      have hki : (k : Int) < 8 := by omega
      go_wp2
      go_roundw
      case rel => exact ⟨k + 1, by omega, rfl, trivial⟩
      case measure => simp [intOf]; omega
    · have hke : k = 8 := by omega
      subst hke
      have i0 : (Instr.index 108 (.agg #[.int .i64 sp, .int .i64 pc]) (.int .i64 0)).run Tryz.prog wr = .ok (.int .i64 sp) wr := by kernel_rfl
      have i1 : (Instr.index 108 (.agg #[.int .i64 sp, .int .i64 pc]) (.int .i64 1)).run Tryz.prog wr = .ok (.int .i64 pc) wr := by kernel_rfl
      go_wp2
      go_rounds 3
      go_ret
      exact ⟨rfl, HU.out⟩
set_option maxRecDepth 100000 in
set_option maxHeartbeats 1000000 in
theorem within_s (g : Rg) (o : g.Byt) (hfo : (g.f % 16 == 0) = true) (hbad : decide (g.state ≤ 3) = false) (w : World) :
    Calls Tryz.prog 44 #[.agg g.cells] w fun e w' => e = .returned (.bool false) ∧ Up w w' := by
  obtain ⟨a, f, b, c, d, e, h, l, sp, pc, ime, st⟩ := g
  have ha := o.a
  have hf := o.f
  have hb := o.b
  have hc := o.c
  have hd := o.d
  have he := o.e
  have hh := o.h
  have hl := o.l
  have hsp := o.sp
  have hpc := o.pc
  have hst := o.state
  simp only at ha hf hb hc hd he hh hl hsp hpc hst
  have hand := andNot240b f hf.1 hf.2
  have G8 : Hid _ := get8i a f b c d e h l
  have B8 : Hid _ := get8b a f b c d e h l ha hf hb hc hd he hh hl
  have hsp1 := hsp.1
  have hsp2 := hsp.2
  have hpc1 := hpc.1
  have hpc2 := hpc.2
  have hst1 := hst.1
  simp only at hbad hfo
  have hst0 : decide (0 ≤ st) = true := decide_eq_true hst1
  clear o ha hf hb hc hd he hh hl hsp hpc hst
  unfold Rg.cells
  go_enter Tryz.func44, Tryz.ntmps44
  go_wp2
  generalize hW : World.alloc w _ = W
  have HU : Hid (Up w W) := by show Up w W; rw [← hW]; exact (Up.refl w).alloc _
  have HG : Hid (W.heap[w.heap.size]? = some (.cells #[.int .i64 a, .int .i64 f, .int .i64 b, .int .i64 c, .int .i64 d, .int .i64 e, .int .i64 h, .int .i64 l, .int .i64 sp, .int .i64 pc, .bool ime, .int .i64 st] 23 (0, 0))) := by show W.heap[w.heap.size]? = _; rw [← hW]; exact heap_alloc_new w _
  have z1 : W.cell? ⟨w.heap.size, 1, none⟩ = some (.int .i64 f) := by rw [cell_of_row _ _ _ _ _ _ HG.out]; rfl
  have z8 : W.cell? ⟨w.heap.size, 8, none⟩ = some (.int .i64 sp) := by rw [cell_of_row _ _ _ _ _ _ HG.out]; rfl
  have z9 : W.cell? ⟨w.heap.size, 9, none⟩ = some (.int .i64 pc) := by rw [cell_of_row _ _ _ _ _ _ HG.out]; rfl
  have z11 : W.cell? ⟨w.heap.size, 11, none⟩ = some (.int .i64 st) := by rw [cell_of_row _ _ _ _ _ _ HG.out]; rfl
  clear hW
  go_loopw [24] (fun i wr => ∃ k : Nat, k ≤ 8 ∧ i = .int .i64 k ∧ wr = W) (fun i _ => 8 - (intOf i).toNat)
  case atStart => exact ⟨0, by omega, rfl, rfl⟩
  case round =>
    obtain ⟨k, hk, rfl, rfl⟩ := hrel
    by_cases hlt : k < 8
    · obtain ⟨x, hx⟩ : ∃ x, x = [a, f, b, c, d, e, h, l].getD k 0 := ⟨_, rfl⟩
      have hix : (Instr.index 107 (.agg #[.int .i64 a, .int .i64 f, .int .i64 b, .int .i64 c, .int .i64 d, .int .i64 e, .int .i64 h, .int .i64 l]) (.int .i64 k)).run Tryz.prog wr = .ok (.int .i64 x) wr := by
        rw [hx]
        exact run_index_one 107 3 8 _ .i64 k _ _ wr Tryz.underlying107 hlt Tryz.underlying3 rfl (by kernel_rfl) (G8.out k hlt)
      have hb := B8.out k hlt
      rw [← hx] at hb
      have hx1 := hb.1
      have hx2 := hb.2
      clear hx hb
      have hki : (k : Int) < 8 := by omega
      go_wp2
      go_roundw
      case rel => exact ⟨k + 1, by omega, rfl, trivial⟩
      case measure => simp [intOf]; omega
    · have hke : k = 8 := by omega
      subst hke
      have i0 : (Instr.index 108 (.agg #[.int .i64 sp, .int .i64 pc]) (.int .i64 0)).run Tryz.prog wr = .ok (.int .i64 sp) wr := by kernel_rfl
      have i1 : (Instr.index 108 (.agg #[.int .i64 sp, .int .i64 pc]) (.int .i64 1)).run Tryz.prog wr = .ok (.int .i64 pc) wr := by kernel_rfl
      go_wp2
      go_rounds 3
      go_ret
      exact ⟨rfl, HU.out⟩
set_option maxRecDepth 100000 in
set_option maxHeartbeats 1000000 in
theorem within_y (g : Rg) (o : g.Byt) (hfo : (g.f % 16 == 0) = true) (hgood : decide (g.state ≤ 3) = true) (w : World) :
    Calls Tryz.prog 44 #[.agg g.cells] w fun e w' => e = .returned (.bool true) ∧ Up w w' := by
  obtain ⟨a, f, b, c, d, e, h, l, sp, pc, ime, st⟩ := g
  have ha := o.a
  have hf := o.f
  have hb := o.b
  have hc := o.c
  have hd := o.d
  have he := o.e
  have hh := o.h
  have hl := o.l
  have hsp := o.sp
  have hpc := o.pc
  have hst := o.state
  simp only at ha hf hb hc hd he hh hl hsp hpc hst
  have hand := andNot240b f hf.1 hf.2
  have G8 : Hid _ := get8i a f b c d e h l
  have B8 : Hid _ := get8b a f b c d e h l ha hf hb hc hd he hh hl
  have hsp1 := hsp.1
  have hsp2 := hsp.2
  have hpc1 := hpc.1
  have hpc2 := hpc.2
  have hst1 := hst.1
  simp only at hgood hfo
  have hst0 : decide (0 ≤ st) = true := decide_eq_true hst1
  clear o ha hf hb hc hd he hh hl hsp hpc hst
  unfold Rg.cells
  go_enter Tryz.func44, Tryz.ntmps44
  go_wp2
  generalize hW : World.alloc w _ = W
  have HU : Hid (Up w W) := by show Up w W; rw [← hW]; exact (Up.refl w).alloc _
  have HG : Hid (W.heap[w.heap.size]? = some (.cells #[.int .i64 a, .int .i64 f, .int .i64 b, .int .i64 c, .int .i64 d, .int .i64 e, .int .i64 h, .int .i64 l, .int .i64 sp, .int .i64 pc, .bool ime, .int .i64 st] 23 (0, 0))) := by show W.heap[w.heap.size]? = _; rw [← hW]; exact heap_alloc_new w _
  have z1 : W.cell? ⟨w.heap.size, 1, none⟩ = some (.int .i64 f) := by rw [cell_of_row _ _ _ _ _ _ HG.out]; rfl
  have z8 : W.cell? ⟨w.heap.size, 8, none⟩ = some (.int .i64 sp) := by rw [cell_of_row _ _ _ _ _ _ HG.out]; rfl
  have z9 : W.cell? ⟨w.heap.size, 9, none⟩ = some (.int .i64 pc) := by rw [cell_of_row _ _ _ _ _ _ HG.out]; rfl
  have z11 : W.cell? ⟨w.heap.size, 11, none⟩ = some (.int .i64 st) := by rw [cell_of_row _ _ _ _ _ _ HG.out]; rfl
  clear hW
  go_loopw [24] (fun i wr => ∃ k : Nat, k ≤ 8 ∧ i = .int .i64 k ∧ wr = W) (fun i _ => 8 - (intOf i).toNat)
  case atStart => exact ⟨0, by omega, rfl, rfl⟩
  case round =>
    obtain ⟨k, hk, rfl, rfl⟩ := hrel
    by_cases hlt : k < 8
    · obtain ⟨x, hx⟩ : ∃ x, x = [a, f, b, c, d, e, h, l].getD k 0 := ⟨_, rfl⟩
      have hix : (Instr.index 107 (.agg #[.int .i64 a, .int .i64 f, .int .i64 b, .int .i64 c, .int .i64 d, .int .i64 e, .int .i64 h, .int .i64 l]) (.int .i64 k)).run Tryz.prog wr = .ok (.int .i64 x) wr := by
        rw [hx]
        exact run_index_one 107 3 8 _ .i64 k _ _ wr Tryz.underlying107 hlt Tryz.underlying3 rfl (by kernel_rfl) (G8.out k hlt)
      have hb := B8.out k hlt
      rw [← hx] at hb
      have hx1 := hb.1
      have hx2 := hb.2
      clear hx hb
      have hki : (k : Int) < 8 := by omega
      go_wp2
      go_roundw
      case rel => exact ⟨k + 1, by omega, rfl, trivial⟩
      case measure => simp [intOf]; omega
    · have hke : k = 8 := by omega
      subst hke
      have i0 : (Instr.index 108 (.agg #[.int .i64 sp, .int .i64 pc]) (.int .i64 0)).run Tryz.prog wr = .ok (.int .i64 sp) wr := by kernel_rfl
      have i1 : (Instr.index 108 (.agg #[.int .i64 sp, .int .i64 pc]) (.int .i64 1)).run Tryz.prog wr = .ok (.int .i64 pc) wr := by kernel_rfl
      go_wp2
      go_rounds 3
      go_ret
      exact ⟨rfl, HU.out⟩
def St.wth (s : St) : Bool := (s.r 6 % 16 == 0) && decide (s.state ≤ 3)
theorem within2_any (s : St) (o : s.Okw) (w : World) : Calls Tryz.prog 44 #[.agg (toRg s).cells] w fun e w' => e = .returned (.bool s.wth) ∧ Up w w' := by
  have B : (toRg s).Byt := ⟨o.r 7, o.r 6, o.r 0, o.r 1, o.r 2, o.r 3, o.r 4, o.r 5, o.sp, o.pc, o.st⟩
  unfold St.wth
  cases h1 : (s.r 6 % 16 == 0)
  · exact within_f _ B h1 w
  · cases h2 : decide (s.state ≤ 3)
    · exact within_s _ B h1 h2 w
    · exact within_y _ B h1 h2 w
/-- whether it may be so -/
def St.snd (s : St) : Bool := s.wth && (if s.due || s.twice then (s.due != s.twice) && !s.ime && (s.state == 0) && (s.phase != 2) else (s.phase != 2) || (s.ime && (s.state == 0)))
end Go.Proofs.YtlgfpddiebdmaaaGreatDoor
/- Whether a processor may be so, over the translation. No condition. -/
namespace Go.Proofs.YtlgfpddiebdmaaaGreatDoor
open Go.RowKit
set_option linter.unusedVariables false
set_option maxRecDepth 100000 in
set_option maxHeartbeats 1000000 in
theorem sound_any (b : Nat) (s : St) (w : World) (h : Cp w b s) (o : s.Okw) :
    Calls Tryz.prog 36 #[.pointer (some ⟨b, 0, none⟩)] w fun e w' => e = .returned (.bool s.snd) ∧ Up w w' := by
  have HT : Hid (∀ W, Cp W b s → Calls Tryz.prog 27 #[.pointer (some ⟨b, 0, none⟩)] W fun e w' => e = .returned (.agg (toRg s).cells) ∧ Up W w') := fun W hW => told2_any b s W hW o
  have HW : Hid (∀ W, Calls Tryz.prog 44 #[.agg (toRg s).cells] W fun e w' => e = .returned (.bool s.wth) ∧ Up W w') := fun W => within2_any s o W
  have HC : Hid (∀ w', Up w w' → Cp w' b s) := fun w' u => h.up u
  have HQ : Hid (∀ w', Up w w' → w'.cell? ⟨b, 10, none⟩ = some (.bool s.ime) ∧ w'.cell? ⟨b, 11, none⟩ = some (.int .i64 s.state) ∧ w'.cell? ⟨b, 12, none⟩ = some (.bool s.due) ∧ w'.cell? ⟨b, 13, none⟩ = some (.bool s.twice) ∧ w'.cell? ⟨b, 14, none⟩ = some (.int .u8 s.phase)) := fun w' u => ⟨(h.up u).cell 10, (h.up u).cell 11, (h.up u).cell 12, (h.up u).cell 13, (h.up u).cell 14⟩
  have HS : Hid (s.snd = (s.wth && (if s.due || s.twice then (s.due != s.twice) && !s.ime && (s.state == 0) && (s.phase != 2) else (s.phase != 2) || (s.ime && (s.state == 0))))) := rfl
  generalize s.snd = R at HS ⊢
  generalize toRg s = g at HT HW
  obtain ⟨a, f, b', c, d, e, h', l, sp, pc, ime', st'⟩ := g
  unfold Rg.cells at HT HW
  generalize hwt : s.wth = wt at HW HS
  generalize s.ime = im at HQ HS
  generalize hss : s.state = st at HQ HS
  generalize s.due = du at HQ HS
  generalize s.twice = tw at HQ HS
  generalize s.phase = ph at HQ HS
  clear h o hwt hss
  have H0 : Hid (Up w w) := Up.refl w
  go_enter Tryz.func36, Tryz.ntmps36
  go_wp2_with fail
  refine (HT.out w (HC.out w H0.out)).mono ?_
  rintro e1 w1 ⟨rfl, u1⟩
  have HU1 : Hid (Up w w1) := u1
  clear u1
  go_wp2_with fail
  refine (HW.out w1).mono ?_
  rintro e2 w2 ⟨rfl, u2⟩
  have HU2 : Hid (Up w w2) := HU1.out.trans u2
  clear u2 HU1
  obtain ⟨c10, c11, c12, c13, c14⟩ := HQ.out w2 HU2.out
  clear HT HW HC HQ H0
  cases wt
  · go_wp2_with fail
    go_ret
    exact ⟨by rw [HS.out]; rfl, by first | exact HU2.out | exact HU2.out.trans (Up.drewN _ _)⟩
  cases du <;> cases tw
  · by_cases hp : ph = 2
    · have p1 : (ph != 2) = false := by rw [hp]; rfl
      cases im
      · go_wp2_with (go_quiet (fail))
        go_ret
        exact ⟨by rw [HS.out, p1]; rfl, by first | exact HU2.out | exact HU2.out.trans (Up.drewN _ _)⟩
      · by_cases hz : st = 0
        · have z1 : (st == 0) = true := by rw [hz]; rfl
          rw [hz] at c11
          go_wp2_with (go_quiet (fail))
          go_ret
          exact ⟨by rw [HS.out, p1, z1]; rfl, by first | exact HU2.out | exact HU2.out.trans (Up.drewN _ _)⟩
        · have z1 : (st == 0) = false := beq_eq_false_iff_ne.2 hz
          go_wp2_with (go_quiet (fail))
          go_ret
          exact ⟨by rw [HS.out, p1, z1]; rfl, by first | exact HU2.out | exact HU2.out.trans (Up.drewN _ _)⟩
    · have p1 : (ph != 2) = true := bne_iff_ne.2 hp
      go_wp2_with (go_quiet (fail))
      go_ret
      exact ⟨by rw [HS.out, p1]; rfl, by first | exact HU2.out | exact HU2.out.trans (Up.drewN _ _)⟩
  · cases im
    · by_cases hz : st = 0
      · have z1 : (st == 0) = true := by rw [hz]; rfl
        by_cases hp : ph = 2
        · have p1 : (ph != 2) = false := by rw [hp]; rfl
          go_wp2_with (go_quiet (fail))
          go_ret
          exact ⟨by rw [HS.out, p1, z1]; rfl, by first | exact HU2.out | exact HU2.out.trans (Up.drewN _ _)⟩
        · have p1 : (ph != 2) = true := bne_iff_ne.2 hp
          go_wp2_with (go_quiet (fail))
          go_ret
          exact ⟨by rw [HS.out, p1, z1]; rfl, by first | exact HU2.out | exact HU2.out.trans (Up.drewN _ _)⟩
      · have z1 : (st == 0) = false := beq_eq_false_iff_ne.2 hz
        go_wp2_with (go_quiet (fail))
        go_ret
        exact ⟨by rw [HS.out, z1]; rfl, by first | exact HU2.out | exact HU2.out.trans (Up.drewN _ _)⟩
    · go_wp2_with (go_quiet (fail))
      go_ret
      exact ⟨by rw [HS.out]; simp, by first | exact HU2.out | exact HU2.out.trans (Up.drewN _ _)⟩
  · cases im
    · by_cases hz : st = 0
      · have z1 : (st == 0) = true := by rw [hz]; rfl
        by_cases hp : ph = 2
        · have p1 : (ph != 2) = false := by rw [hp]; rfl
          go_wp2_with (go_quiet (fail))
          go_ret
          exact ⟨by rw [HS.out, p1, z1]; rfl, by first | exact HU2.out | exact HU2.out.trans (Up.drewN _ _)⟩
        · have p1 : (ph != 2) = true := bne_iff_ne.2 hp
          go_wp2_with (go_quiet (fail))
          go_ret
          exact ⟨by rw [HS.out, p1, z1]; rfl, by first | exact HU2.out | exact HU2.out.trans (Up.drewN _ _)⟩
      · have z1 : (st == 0) = false := beq_eq_false_iff_ne.2 hz
        go_wp2_with (go_quiet (fail))
        go_ret
        exact ⟨by rw [HS.out, z1]; rfl, by first | exact HU2.out | exact HU2.out.trans (Up.drewN _ _)⟩
    · go_wp2_with (go_quiet (fail))
      go_ret
      exact ⟨by rw [HS.out]; simp, by first | exact HU2.out | exact HU2.out.trans (Up.drewN _ _)⟩
  · go_wp2_with (go_quiet (fail))
    go_ret
    exact ⟨by rw [HS.out]; simp, by first | exact HU2.out | exact HU2.out.trans (Up.drewN _ _)⟩
end Go.Proofs.YtlgfpddiebdmaaaGreatDoor
