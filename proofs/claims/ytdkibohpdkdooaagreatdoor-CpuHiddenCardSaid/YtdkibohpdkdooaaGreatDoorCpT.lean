/- Want, over the translation. -/
import Derived.Test.YtdkibohpdkdooaaGreatDoorCpU
import Derived.Test.YtdkibohpdkdooaaGreatDoorCpQ
namespace Go.Proofs.YtdkibohpdkdooaaGreatDoor
open Go.RowKit
set_option linter.unusedVariables false
theorem enterAt (k : Nat) (hk : k ≤ 28) (args : Array Value) (W : World) : (callFunc (atF k) args).run Tryz.prog W = .ok (.enter (atF k) args) W := by
  rcases cases29 hk with rfl | rfl | rfl | rfl | rfl | rfl | rfl | rfl | rfl | rfl | rfl | rfl | rfl | rfl | rfl | rfl | rfl | rfl | rfl | rfl | rfl | rfl | rfl | rfl | rfl | rfl | rfl | rfl | rfl
  · exact Tryz.call29 args W
  · exact Tryz.call29 args W
  · exact Tryz.call31 args W
  · exact Tryz.call32 args W
  · exact Tryz.call33 args W
  · exact Tryz.call34 args W
  · exact Tryz.call35 args W
  · exact Tryz.call36 args W
  · exact Tryz.call37 args W
  · exact Tryz.call38 args W
  · exact Tryz.call39 args W
  · exact Tryz.call40 args W
  · exact Tryz.call33 args W
  · exact Tryz.call34 args W
  · exact Tryz.call35 args W
  · exact Tryz.call36 args W
  · exact Tryz.call37 args W
  · exact Tryz.call38 args W
  · exact Tryz.call35 args W
  · exact Tryz.call35 args W
  · exact Tryz.call35 args W
  · exact Tryz.call35 args W
  · exact Tryz.call38 args W
  · exact Tryz.call47 args W
  · exact Tryz.call49 args W
  · exact Tryz.call51 args W
  · exact Tryz.call49 args W
  · exact Tryz.call51 args W
  · exact Tryz.call51 args W
theorem enterData (k : Nat) (hk : k ≤ 28) (args : Array Value) (W : World) : (callFunc (dataF k) args).run Tryz.prog W = .ok (.enter (dataF k) args) W := by
  rcases cases29 hk with rfl | rfl | rfl | rfl | rfl | rfl | rfl | rfl | rfl | rfl | rfl | rfl | rfl | rfl | rfl | rfl | rfl | rfl | rfl | rfl | rfl | rfl | rfl | rfl | rfl | rfl | rfl | rfl | rfl
  · exact Tryz.call30 args W
  · exact Tryz.call30 args W
  · exact Tryz.call30 args W
  · exact Tryz.call30 args W
  · exact Tryz.call30 args W
  · exact Tryz.call30 args W
  · exact Tryz.call30 args W
  · exact Tryz.call30 args W
  · exact Tryz.call30 args W
  · exact Tryz.call30 args W
  · exact Tryz.call30 args W
  · exact Tryz.call30 args W
  · exact Tryz.call41 args W
  · exact Tryz.call41 args W
  · exact Tryz.call41 args W
  · exact Tryz.call41 args W
  · exact Tryz.call41 args W
  · exact Tryz.call41 args W
  · exact Tryz.call42 args W
  · exact Tryz.call43 args W
  · exact Tryz.call44 args W
  · exact Tryz.call45 args W
  · exact Tryz.call46 args W
  · exact Tryz.call48 args W
  · exact Tryz.call50 args W
  · exact Tryz.call52 args W
  · exact Tryz.call53 args W
  · exact Tryz.call54 args W
  · exact Tryz.call54 args W
theorem enterDoes (k : Nat) (hk : k ≤ 32) (args : Array Value) (W : World) : (callFunc (doesF k) args).run Tryz.prog W = .ok (.enter (doesF k) args) W := by
  rcases cases33 hk with rfl | rfl | rfl | rfl | rfl | rfl | rfl | rfl | rfl | rfl | rfl | rfl | rfl | rfl | rfl | rfl | rfl | rfl | rfl | rfl | rfl | rfl | rfl | rfl | rfl | rfl | rfl | rfl | rfl | rfl | rfl | rfl | rfl
  · exact Tryz.call77 args W
  · exact Tryz.call86 args W
  · exact Tryz.call78 args W
  · exact Tryz.call98 args W
  · exact Tryz.call100 args W
  · exact Tryz.call99 args W
  · exact Tryz.call97 args W
  · exact Tryz.call95 args W
  · exact Tryz.call79 args W
  · exact Tryz.call122 args W
  · exact Tryz.call121 args W
  · exact Tryz.call89 args W
  · exact Tryz.call94 args W
  · exact Tryz.call123 args W
  · exact Tryz.call93 args W
  · exact Tryz.call87 args W
  · exact Tryz.call91 args W
  · exact Tryz.call112 args W
  · exact Tryz.call114 args W
  · exact Tryz.call113 args W
  · exact Tryz.call115 args W
  · exact Tryz.call80 args W
  · exact Tryz.call96 args W
  · exact Tryz.call83 args W
  · exact Tryz.call84 args W
  · exact Tryz.call81 args W
  · exact Tryz.call90 args W
  · exact Tryz.call92 args W
  · exact Tryz.call88 args W
  · exact Tryz.call116 args W
  · exact Tryz.call117 args W
  · exact Tryz.call76 args W
  · exact Tryz.call55 args W
theorem Up.cell {w w' : World} (h : Up w w') {g k : Nat} (hg : g < w.heap.size) : w'.cell? ⟨g, k, none⟩ = w.cell? ⟨g, k, none⟩ := by
  unfold World.cell?
  rw [show (w'.heap[(⟨g, k, none⟩ : Addr).block]?) = w.heap[(⟨g, k, none⟩ : Addr).block]? from h.block _ hg]
theorem set3 {W : World} {g : Nat} {a b c p q r : Value} {ty : TypeId} (h : W.heap[g]? = some (.cells #[a, b, c] ty (0, 0))) :
    ((W.setCell ⟨g, 0, none⟩ p).setCell ⟨g, 1, none⟩ q).setCell ⟨g, 2, none⟩ r = W.setRow g #[p, q, r] := by
  have h1 := setRow_heap W g _ #[p, b, c] ty (0, 0) h
  have h2 := setRow_heap W g _ #[p, q, c] ty (0, 0) h
  rw [setCell_eq_setRow W g 0 _ ty (0, 0) p h, show (#[a, b, c] : Array Value).setIfInBounds 0 p = #[p, b, c] from rfl]
  rw [setCell_eq_setRow _ g 1 _ ty (0, 0) q h1, show (#[p, b, c] : Array Value).setIfInBounds 1 q = #[p, q, c] from rfl, setRow_setRow]
  rw [setCell_eq_setRow _ g 2 _ ty (0, 0) r h2, show (#[p, q, c] : Array Value).setIfInBounds 2 r = #[p, q, r] from rfl, setRow_setRow]
theorem res3 {W : World} {g : Nat} {a b c : Value} {ty : TypeId} (h : W.heap[g]? = some (.cells #[a, b, c] ty (0, 0))) :
    W.cell? ⟨g, 0, none⟩ = some a ∧ W.cell? ⟨g, 1, none⟩ = some b ∧ W.cell? ⟨g, 2, none⟩ = some c ∧ W.frozen? ⟨g, 0, none⟩ = false ∧ W.frozen? ⟨g, 1, none⟩ = false ∧ W.frozen? ⟨g, 2, none⟩ = false := by
  refine ⟨?_, ?_, ?_, ?_, ?_, ?_⟩
  · rw [cell_of_row _ _ _ _ _ _ h]; rfl
  · rw [cell_of_row _ _ _ _ _ _ h]; rfl
  · rw [cell_of_row _ _ _ _ _ _ h]; rfl
  all_goals simp [World.frozen?, h]
theorem at_b (s : St) (o : s.Ok) (k : Nat) : 0 ≤ s.at k ∧ s.at k ≤ 65535 := by
  have h1 := o.pc
  have h2 := o.sp
  have h3 := o.word
  have h4 := o.pair 0
  have h5 := o.pair 1
  have h6 := o.pair 2
  have h7 := o.rd 0
  have h8 := o.r 1
  unfold St.at
  repeat' split
  all_goals omega
set_option maxRecDepth 100000 in
set_option maxHeartbeats 1000000 in
theorem want_any (b : Nat) (s : St) (w : World) (h : Cp w b s) (o : s.Ok) (hL : Lb b w) :
    Calls Tryz.prog 17 #[.pointer (some ⟨b, 0, none⟩)] w fun e w' => e = .returned (.agg #[.int .i64 (wantsK s.next), .int .i64 (s.at s.next), .int .i64 (s.data s.next)]) ∧ Up w w' := by
  have hk := next28 s
  have HN : Hid (∀ W, Cp W b s → Calls Tryz.prog 21 #[.pointer (some ⟨b, 0, none⟩)] W fun e w' => e = .returned (.int .u8 (s.next : Nat)) ∧ Up W w') := fun W hW => next_any b s W hW o
  generalize s.next = k at hk HN ⊢
  have HK : Hid (k ≤ 28) := hk
  have HA : Hid (∀ W, Calls Tryz.prog 22 #[.int .u8 k] W fun e w' => e = .returned (.agg #[.func (.func (atF k)) #[] #[], .func (.func (dataF k)) #[] #[]]) ∧ Up W w') := fun W => actOf_any k W hk
  have HT : Hid (∀ W, Cp W b s → Calls Tryz.prog (atF k) #[.pointer (some ⟨b, 0, none⟩)] W fun e w' => e = .returned (.int .u16 (s.at k)) ∧ Up W w') := fun W hW => at_any k hk b s W hW o
  have HD : Hid (∀ W, Cp W b s → Lb b W → Calls Tryz.prog (dataF k) #[.pointer (some ⟨b, 0, none⟩)] W fun e w' => e = .returned (.int .u8 (s.data k)) ∧ Up W w') := fun W hW hB => data_any k hk b s W hW o hB
  have hAt : Hid _ := at_b s o k
  have hDb : Hid _ := data_b s o k
  have eA := enterAt k hk
  have eD := enterData k hk
  clear hk
  go_enter Tryz.func17, Tryz.ntmps17
  go_wp2_with (first
    | (go_at_call 21; refine (HN.out _ (by exact h.up ((Up.refl w).alloc _))).mono ?_; rintro e w1 ⟨rfl, hu1⟩)
    | (go_at_call 22; refine (HA.out _).mono ?_; rintro e w2 ⟨rfl, hu2⟩))
  have hs1 := hu1.size
  have hs2 := hu2.size
  simp at hs1
  have hu12 := hu1.trans hu2
  have hR2 : w2.heap[w.heap.size]? = some (.cells #[.int .i64 0, .int .i64 0, .int .i64 0] 56 (0, 0)) := (hu12.block _ (by simp)).trans (heap_alloc_new w _)
  have hww : Up w w2 := ((Up.refl w).alloc _).trans hu12
  generalize hW : World.alloc w2 _ = W
  have u0 : Up w2 W := by rw [← hW]; exact (Up.refl w2).alloc _
  have fA : W.cell? ⟨w2.heap.size, 0, none⟩ = some (.func (.func (atF k)) #[] #[]) := by rw [← hW]; simp
  have fD : W.cell? ⟨w2.heap.size, 1, none⟩ = some (.func (.func (dataF k)) #[] #[]) := by rw [← hW]; simp
  have hws : w2.heap.size < W.heap.size := by rw [← hW]; simp
  have hwW : Up w W := hww.trans u0
  have hRW : W.heap[w.heap.size]? = some (.cells #[.int .i64 0, .int .i64 0, .int .i64 0] 56 (0, 0)) := (u0.block _ (by omega)).trans hR2
  have hne : w.heap.size ≠ w2.heap.size := by omega
  have hcW := h.up hwW
  have hLW := hL.up hwW
  have HRW : Hid _ := hRW
  have HwW : Hid _ := hwW
  have ha1 := hAt.out.1
  have ha2 := hAt.out.2
  clear hW hu1 hu2 hu12 hR2 hww u0 hRW hwW
  go_region_held3 (fun w' => w'.cell? ⟨w2.heap.size, 0, none⟩ = some (.func (.func (atF k)) #[] #[]) ∧ w'.cell? ⟨w2.heap.size, 1, none⟩ = some (.func (.func (dataF k)) #[] #[]))
    (first | exact ⟨fA, fD⟩ | exact ⟨fA3, fD3⟩ | exact ⟨fA4, fD4⟩ | (refine ⟨?_, ?_⟩ <;> (rw [World.cell?_setCell_far _ _ _ _ hne, World.cell?_setCell_far _ _ _ _ hne, World.cell?_setCell_far _ _ _ _ hne]; first | exact fA4 | exact fD4)))
    (first
      | (go_at_call 23; refine (wants_any k _ HK.out).mono ?_; rintro e w' ⟨rfl, n, rfl⟩)
      | (refine (HT.out _ (by exact hcW)).mono ?_; rintro e w3 ⟨rfl, hu3⟩
         have up3 : Up W w3 := (Up.drewN W _).trans hu3
         have fA3 := (up3.cell (k := 0) hws).trans fA
         have fD3 := (up3.cell (k := 1) hws).trans fD
         have hc3 := hcW.up up3
         have hL3 := hLW.up up3
         have hs3 := up3.size
         clear hu3)
      | (refine (HD.out _ (by exact hc3) (by exact hL3)).mono ?_; rintro e w4 ⟨rfl, hu4⟩
         have up4 : Up w3 w4 := by first | exact hu4 | exact (Up.drewN w3 _).trans hu4
         have fA4 := (up4.cell (k := 0) (by omega)).trans fA3
         have fD4 := (up4.cell (k := 1) (by omega)).trans fD3
         have hR4 : Hid (w4.heap[w.heap.size]? = _) := (up4.block _ (by omega)).trans ((up3.block _ (by omega)).trans HRW.out)
         obtain ⟨z0, z1, z2, g0, g1, g2⟩ := res3 hR4.out
         have hU4 : Hid (Up w w4) := HwW.out.trans (up3.trans up4)
         clear hu4))
  rw [wi (s.at k) ha1 ha2, wi (s.data k) hDb.out.1 (by have := hDb.out.2; omega)]
  rw [set3 hR4.out]
  go_wp2
  refine bodyPost_ret (v := .agg #[.int .i64 (wantsK k), .int .i64 (s.at k), .int .i64 (s.data k)]) (results_row Tryz.results17 _ _ _ 56 _ (0, 0) _ rfl (setRow_heap _ _ _ _ _ _ hR4.out) Tryz.underlying56 rfl (by kernel_rfl)) rfl ⟨rfl, hU4.out.setRow (Nat.le_refl _) _⟩
end Go.Proofs.YtdkibohpdkdooaaGreatDoor
