/- Cart: registers set. -/
import Derived.Test.YtojlappgmckokaaDoorCbF
namespace Go.Proofs.YtojlappgmckokaaDoor
open Go.Shelf Go.RowKit
set_option linter.unusedVariables false
set_option linter.unusedSimpArgs false
variable {w w' W : World} {b : Nat} {A : Ad} {C : Ct}
set_option maxRecDepth 100000 in
set_option maxHeartbeats 1000000 in
theorem put_0 {r0 r1 r2 r3 r4 : Nat} : Calls Tryd.prog 44 #[.iface 121 (.agg #[]), .agg #[.int .u8 (r0 : Int), .int .u8 (r1 : Int), .int .u8 (r2 : Int), .int .u8 (r3 : Int), .int .u8 (r4 : Int)]] W fun e w' => e = .returned (.tuple #[]) ∧ Up W w' := by
  have t1 := ta_0_1
  have t2 := ta_0_2
  have t3 := ta_0_3
  have t5 := ta_0_5
  go_enter Tryd.func44, Tryd.ntmps44
  go_wp2_with fail
  go_end0
  exact ⟨rfl, (Up.refl W).alloc _⟩
set_option maxRecDepth 100000 in
set_option maxHeartbeats 1000000 in
theorem put_1 {r0 r1 r2 r3 r4 on low pick mode : Nat} (h : W.heap[b]? = some (.cells #[.int .u8 ((on : Nat) : Int), .int .u8 ((low : Nat) : Int), .int .u8 ((pick : Nat) : Int), .int .u8 ((mode : Nat) : Int)] 110 (0, 0))) : Calls Tryd.prog 44 #[.iface 108 (.pointer (some ⟨b, 0, none⟩)), .agg #[.int .u8 (r0 : Int), .int .u8 (r1 : Int), .int .u8 (r2 : Int), .int .u8 (r3 : Int), .int .u8 (r4 : Int)]] W fun e w' => e = .returned (.tuple #[]) ∧ w'.heap[b]? = some (.cells #[.int .u8 (r0 : Int), .int .u8 (r1 : Int), .int .u8 (r3 : Int), .int .u8 (r4 : Int)] 110 (0, 0)) ∧ Fr b W w' := by
  have t1 := ta_1_1 (b := b)
  have hlt := heap_at h
  have ha : (W.alloc (.cells #[.int .u8 (r0 : Int), .int .u8 (r1 : Int), .int .u8 (r2 : Int), .int .u8 (r3 : Int), .int .u8 (r4 : Int)] 87)).heap[b]? = some (.cells #[.int .u8 ((on : Nat) : Int), .int .u8 ((low : Nat) : Int), .int .u8 ((pick : Nat) : Int), .int .u8 ((mode : Nat) : Int)] 110 (0, 0)) := (Below.heap_alloc _ _ _ hlt).trans h
  have HT : Hid ((W.alloc (.cells #[.int .u8 (r0 : Int), .int .u8 (r1 : Int), .int .u8 (r2 : Int), .int .u8 (r3 : Int), .int .u8 (r4 : Int)] 87)).there b 0 4) := there_heap ha (by simp)
  have HB : Hid (((W.alloc (.cells #[.int .u8 (r0 : Int), .int .u8 (r1 : Int), .int .u8 (r2 : Int), .int .u8 (r3 : Int), .int .u8 (r4 : Int)] 87)).setCells b 0 [.int .u8 (r0 : Int), .int .u8 (r1 : Int), .int .u8 (r3 : Int), .int .u8 (r4 : Int)]).heap[b]? = some (.cells #[.int .u8 (r0 : Int), .int .u8 (r1 : Int), .int .u8 (r3 : Int), .int .u8 (r4 : Int)] 110 (0, 0))) := heap_setCells_same b _ _ 0 _ _ ha
  have HF : Hid (Fr b W ((W.alloc (.cells #[.int .u8 (r0 : Int), .int .u8 (r1 : Int), .int .u8 (r2 : Int), .int .u8 (r3 : Int), .int .u8 (r4 : Int)] 87)).setCells b 0 [.int .u8 (r0 : Int), .int .u8 (r1 : Int), .int .u8 (r3 : Int), .int .u8 (r4 : Int)])) := (Fr.ofUp ((Up.refl W).alloc _)).trans (fr_setCells b _ 0 _)
  clear h ha
  go_enter Tryd.func44, Tryd.ntmps44
  go_wp2_with (refine wpList_store_mid rfl 110 _ _ rfl b 0 #[.int .u8 (r0 : Int), .int .u8 (r1 : Int), .int .u8 (r3 : Int), .int .u8 (r4 : Int)] rfl rfl HT.out (by kernel_rfl) (by simp [Value.oneCell']) ?_)
  go_end0
  exact ⟨rfl, HB.out, HF.out⟩
set_option maxRecDepth 100000 in
set_option maxHeartbeats 1000000 in
theorem put_2 {r0 r1 r2 r3 r4 on low : Nat} (h : W.heap[b]? = some (.cells #[.int .u8 ((on : Nat) : Int), .int .u8 ((low : Nat) : Int)] 113 (0, 0))) : Calls Tryd.prog 44 #[.iface 111 (.pointer (some ⟨b, 0, none⟩)), .agg #[.int .u8 (r0 : Int), .int .u8 (r1 : Int), .int .u8 (r2 : Int), .int .u8 (r3 : Int), .int .u8 (r4 : Int)]] W fun e w' => e = .returned (.tuple #[]) ∧ w'.heap[b]? = some (.cells #[.int .u8 (r0 : Int), .int .u8 (r1 : Int)] 113 (0, 0)) ∧ Fr b W w' := by
  have t1 := ta_2_1 (b := b)
  have t2 := ta_2_2 (b := b)
  have hlt := heap_at h
  have ha : (W.alloc (.cells #[.int .u8 (r0 : Int), .int .u8 (r1 : Int), .int .u8 (r2 : Int), .int .u8 (r3 : Int), .int .u8 (r4 : Int)] 87)).heap[b]? = some (.cells #[.int .u8 ((on : Nat) : Int), .int .u8 ((low : Nat) : Int)] 113 (0, 0)) := (Below.heap_alloc _ _ _ hlt).trans h
  have HT : Hid ((W.alloc (.cells #[.int .u8 (r0 : Int), .int .u8 (r1 : Int), .int .u8 (r2 : Int), .int .u8 (r3 : Int), .int .u8 (r4 : Int)] 87)).there b 0 2) := there_heap ha (by simp)
  have HB : Hid (((W.alloc (.cells #[.int .u8 (r0 : Int), .int .u8 (r1 : Int), .int .u8 (r2 : Int), .int .u8 (r3 : Int), .int .u8 (r4 : Int)] 87)).setCells b 0 [.int .u8 (r0 : Int), .int .u8 (r1 : Int)]).heap[b]? = some (.cells #[.int .u8 (r0 : Int), .int .u8 (r1 : Int)] 113 (0, 0))) := heap_setCells_same b _ _ 0 _ _ ha
  have HF : Hid (Fr b W ((W.alloc (.cells #[.int .u8 (r0 : Int), .int .u8 (r1 : Int), .int .u8 (r2 : Int), .int .u8 (r3 : Int), .int .u8 (r4 : Int)] 87)).setCells b 0 [.int .u8 (r0 : Int), .int .u8 (r1 : Int)])) := (Fr.ofUp ((Up.refl W).alloc _)).trans (fr_setCells b _ 0 _)
  clear h ha
  go_enter Tryd.func44, Tryd.ntmps44
  go_wp2_with (refine wpList_store_mid rfl 113 _ _ rfl b 0 #[.int .u8 (r0 : Int), .int .u8 (r1 : Int)] rfl rfl HT.out (by kernel_rfl) (by simp [Value.oneCell']) ?_)
  go_end0
  exact ⟨rfl, HB.out, HF.out⟩
set_option maxRecDepth 100000 in
set_option maxHeartbeats 1000000 in
theorem put_3 {r0 r1 r2 r3 r4 on low pick : Nat} (h : W.heap[b]? = some (.cells #[.int .u8 ((on : Nat) : Int), .int .u8 ((low : Nat) : Int), .int .u8 ((pick : Nat) : Int)] 116 (0, 0))) : Calls Tryd.prog 44 #[.iface 114 (.pointer (some ⟨b, 0, none⟩)), .agg #[.int .u8 (r0 : Int), .int .u8 (r1 : Int), .int .u8 (r2 : Int), .int .u8 (r3 : Int), .int .u8 (r4 : Int)]] W fun e w' => e = .returned (.tuple #[]) ∧ w'.heap[b]? = some (.cells #[.int .u8 (r0 : Int), .int .u8 (r1 : Int), .int .u8 (r3 : Int)] 116 (0, 0)) ∧ Fr b W w' := by
  have t1 := ta_3_1 (b := b)
  have t2 := ta_3_2 (b := b)
  have t3 := ta_3_3 (b := b)
  have hlt := heap_at h
  have ha : (W.alloc (.cells #[.int .u8 (r0 : Int), .int .u8 (r1 : Int), .int .u8 (r2 : Int), .int .u8 (r3 : Int), .int .u8 (r4 : Int)] 87)).heap[b]? = some (.cells #[.int .u8 ((on : Nat) : Int), .int .u8 ((low : Nat) : Int), .int .u8 ((pick : Nat) : Int)] 116 (0, 0)) := (Below.heap_alloc _ _ _ hlt).trans h
  have HT : Hid ((W.alloc (.cells #[.int .u8 (r0 : Int), .int .u8 (r1 : Int), .int .u8 (r2 : Int), .int .u8 (r3 : Int), .int .u8 (r4 : Int)] 87)).there b 0 3) := there_heap ha (by simp)
  have HB : Hid (((W.alloc (.cells #[.int .u8 (r0 : Int), .int .u8 (r1 : Int), .int .u8 (r2 : Int), .int .u8 (r3 : Int), .int .u8 (r4 : Int)] 87)).setCells b 0 [.int .u8 (r0 : Int), .int .u8 (r1 : Int), .int .u8 (r3 : Int)]).heap[b]? = some (.cells #[.int .u8 (r0 : Int), .int .u8 (r1 : Int), .int .u8 (r3 : Int)] 116 (0, 0))) := heap_setCells_same b _ _ 0 _ _ ha
  have HF : Hid (Fr b W ((W.alloc (.cells #[.int .u8 (r0 : Int), .int .u8 (r1 : Int), .int .u8 (r2 : Int), .int .u8 (r3 : Int), .int .u8 (r4 : Int)] 87)).setCells b 0 [.int .u8 (r0 : Int), .int .u8 (r1 : Int), .int .u8 (r3 : Int)])) := (Fr.ofUp ((Up.refl W).alloc _)).trans (fr_setCells b _ 0 _)
  clear h ha
  go_enter Tryd.func44, Tryd.ntmps44
  go_wp2_with (refine wpList_store_mid rfl 116 _ _ rfl b 0 #[.int .u8 (r0 : Int), .int .u8 (r1 : Int), .int .u8 (r3 : Int)] rfl rfl HT.out (by kernel_rfl) (by simp [Value.oneCell']) ?_)
  go_end0
  exact ⟨rfl, HB.out, HF.out⟩
set_option maxRecDepth 100000 in
set_option maxHeartbeats 1000000 in
theorem put_5 {r0 r1 r2 r3 r4 on low high pick : Nat} (h : W.heap[b]? = some (.cells #[.int .u8 ((on : Nat) : Int), .int .u8 ((low : Nat) : Int), .int .u8 ((high : Nat) : Int), .int .u8 ((pick : Nat) : Int)] 119 (0, 0))) : Calls Tryd.prog 44 #[.iface 117 (.pointer (some ⟨b, 0, none⟩)), .agg #[.int .u8 (r0 : Int), .int .u8 (r1 : Int), .int .u8 (r2 : Int), .int .u8 (r3 : Int), .int .u8 (r4 : Int)]] W fun e w' => e = .returned (.tuple #[]) ∧ w'.heap[b]? = some (.cells #[.int .u8 (r0 : Int), .int .u8 (r1 : Int), .int .u8 (r2 : Int), .int .u8 (r3 : Int)] 119 (0, 0)) ∧ Fr b W w' := by
  have t1 := ta_5_1 (b := b)
  have t2 := ta_5_2 (b := b)
  have t3 := ta_5_3 (b := b)
  have t5 := ta_5_5 (b := b)
  have hlt := heap_at h
  have ha : (W.alloc (.cells #[.int .u8 (r0 : Int), .int .u8 (r1 : Int), .int .u8 (r2 : Int), .int .u8 (r3 : Int), .int .u8 (r4 : Int)] 87)).heap[b]? = some (.cells #[.int .u8 ((on : Nat) : Int), .int .u8 ((low : Nat) : Int), .int .u8 ((high : Nat) : Int), .int .u8 ((pick : Nat) : Int)] 119 (0, 0)) := (Below.heap_alloc _ _ _ hlt).trans h
  have HT : Hid ((W.alloc (.cells #[.int .u8 (r0 : Int), .int .u8 (r1 : Int), .int .u8 (r2 : Int), .int .u8 (r3 : Int), .int .u8 (r4 : Int)] 87)).there b 0 4) := there_heap ha (by simp)
  have HB : Hid (((W.alloc (.cells #[.int .u8 (r0 : Int), .int .u8 (r1 : Int), .int .u8 (r2 : Int), .int .u8 (r3 : Int), .int .u8 (r4 : Int)] 87)).setCells b 0 [.int .u8 (r0 : Int), .int .u8 (r1 : Int), .int .u8 (r2 : Int), .int .u8 (r3 : Int)]).heap[b]? = some (.cells #[.int .u8 (r0 : Int), .int .u8 (r1 : Int), .int .u8 (r2 : Int), .int .u8 (r3 : Int)] 119 (0, 0))) := heap_setCells_same b _ _ 0 _ _ ha
  have HF : Hid (Fr b W ((W.alloc (.cells #[.int .u8 (r0 : Int), .int .u8 (r1 : Int), .int .u8 (r2 : Int), .int .u8 (r3 : Int), .int .u8 (r4 : Int)] 87)).setCells b 0 [.int .u8 (r0 : Int), .int .u8 (r1 : Int), .int .u8 (r2 : Int), .int .u8 (r3 : Int)])) := (Fr.ofUp ((Up.refl W).alloc _)).trans (fr_setCells b _ 0 _)
  clear h ha
  go_enter Tryd.func44, Tryd.ntmps44
  go_wp2_with (refine wpList_store_mid rfl 119 _ _ rfl b 0 #[.int .u8 (r0 : Int), .int .u8 (r1 : Int), .int .u8 (r2 : Int), .int .u8 (r3 : Int)] rfl rfl HT.out (by kernel_rfl) (by simp [Value.oneCell']) ?_)
  go_end0
  exact ⟨rfl, HB.out, HF.out⟩
/-- registers as they are set -/
theorem MpAt.put {v : Value} {m : Mp} {r0 r1 r2 r3 r4 : Nat} (h : MpAt W v m b) : Calls Tryd.prog 44 #[v, .agg #[.int .u8 (r0 : Int), .int .u8 (r1 : Int), .int .u8 (r2 : Int), .int .u8 (r3 : Int), .int .u8 (r4 : Int)]] W fun e w' => e = .returned (.tuple #[]) ∧ MpAt w' v ⟨m.kd, r0, r1, r2, r3, r4⟩ b ∧ Fr b W w' := by
  obtain ⟨kd, on, low, high, pick, mode⟩ := m
  rcases h with ⟨hk, hv⟩ | ⟨hk, hv, hb⟩
  · have hk : kd = 0 := hk
    subst hk hv
    exact put_0.mono fun e w' ⟨q1, q2⟩ => ⟨q1, Or.inl ⟨rfl, rfl⟩, Fr.ofUp q2⟩
  · have hb : W.heap[b]? = some (.cells (Mp.cells ⟨kd, on, low, high, pick, mode⟩).toArray (Mp.bty kd) (0, 0)) := hb
    have hv : v = .iface (Mp.pty kd) (.pointer (some ⟨b, 0, none⟩)) := hv
    have hk : kd = 1 ∨ kd = 2 ∨ kd = 3 ∨ kd = 5 := hk
    have hk2 := hk
    rcases hk with rfl | rfl | rfl | rfl <;> subst hv
    · exact (put_1 hb).mono fun e w' ⟨q1, q2, q3⟩ => ⟨q1, Or.inr ⟨hk2, rfl, q2⟩, q3⟩
    · exact (put_2 hb).mono fun e w' ⟨q1, q2, q3⟩ => ⟨q1, Or.inr ⟨hk2, rfl, q2⟩, q3⟩
    · exact (put_3 hb).mono fun e w' ⟨q1, q2, q3⟩ => ⟨q1, Or.inr ⟨hk2, rfl, q2⟩, q3⟩
    · exact (put_5 hb).mono fun e w' ⟨q1, q2, q3⟩ => ⟨q1, Or.inr ⟨hk2, rfl, q2⟩, q3⟩
end Go.Proofs.YtojlappgmckokaaDoor
