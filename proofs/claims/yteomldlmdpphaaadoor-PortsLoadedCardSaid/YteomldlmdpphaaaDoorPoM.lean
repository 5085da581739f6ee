/- The ports: New; what comes by the clocks, as closures: the alarm and the ticks. -/
import Derived.Test.YteomldlmdpphaaaDoorPoK
import Derived.Test.YteomldlmdpphaaaDoorTabL
namespace Go.Proofs.YteomldlmdpphaaaDoor
open Go.RowKit
set_option linter.unusedVariables false
variable {b : Nat} {p : Po}
def newPo : Po := ⟨0, 48, 0, 0, 43980, 0, 0, 0, 1, 0, 0, 0⟩
theorem newPo_ok : newPo.Ok := ⟨by decide, by decide, by decide, by decide, by decide, by decide, by decide, by decide, by decide, by decide, by decide, by decide⟩
theorem new_any (W : World) : Calls Tryd.prog 28 #[] W fun e w' => e = .returned (.pointer (some ⟨W.heap.size, 0, none⟩)) ∧ PoAt w' W.heap.size newPo (.slice none 0 0) ∧ Up W w' := by
  go_enter Tryd.func28, Tryd.ntmps28
  go_wp2_with fail
  go_ret
  exact ⟨rfl, heap_alloc_new W _, (Up.refl W).alloc _⟩
/-- the two closures of a countdown -/
def cdV (s : Nat) : Array Value := #[.func (.func 67) #[] #[.pointer (some ⟨s, 0, none⟩)], .func (.func 68) #[] #[.pointer (some ⟨s, 0, none⟩), .pointer (some ⟨s + 1, 0, none⟩)]]
set_option maxRecDepth 100000 in
theorem countdown_any (k K cp : Nat) (W : World) :
    Calls Tryd.prog 31 #[.pointer (some ⟨b, k, none⟩), .func (.func K) #[] #[.pointer (some ⟨cp, 0, none⟩)]] W fun e w' => e = .returned (.agg (cdV W.heap.size)) ∧ w'.cell? ⟨W.heap.size, 0, none⟩ = some (.pointer (some ⟨b, k, none⟩)) ∧ w'.cell? ⟨W.heap.size + 1, 0, none⟩ = some (.func (.func K) #[] #[.pointer (some ⟨cp, 0, none⟩)]) ∧ w'.heap.size = W.heap.size + 1 + 1 + 1 ∧ Up W w' := by
  have hmf : ∀ (fn : Fn) (first cap : Array Value) (w : World), (Instr.makeFunc fn first cap).run Tryd.prog w = .ok (.func fn first cap) w := fun _ _ _ _ => rfl
  go_enter Tryd.func31, Tryd.ntmps31
  go_wp2_with fail
  generalize hw2 : World.alloc (World.alloc W _) _ = w2
  have k2 := twoB W w2 _ _ _ _ hw2
  have hs : w2.heap.size = W.heap.size + 1 + 1 := k2.2.2.1
  rw [← hs]
  refine bodyPost_ret (v := .agg (cdV W.heap.size)) (results_row Tryd.results31 _ _ w2.heap.size 63 (cdV W.heap.size) (0, 0) _ rfl (heap_alloc_new w2 _) Tryd.underlying63 rfl (by kernel_rfl)) rfl ?_
  have u := (Up.refl w2).alloc (.cells (cdV W.heap.size) 63)
  exact ⟨rfl, (u.cell (by omega)).trans (k2.1 0), (u.cell (by omega)).trans (k2.2.1 0), by simp [hs], k2.2.2.2.trans u⟩
theorem left_any (s c : Nat) (k : Nat) (x : Int) (W : World) (hs : W.cell? ⟨s, 0, none⟩ = some (.pointer (some ⟨b, k, none⟩))) (hx : W.cell? ⟨b, k, none⟩ = some (.int .i64 x)) :
    Calls Tryd.prog 67 #[.pointer (some ⟨s, 0, none⟩)] W fun e w' => e = .returned (.int .i64 x) ∧ w' = W := by
  go_enter Tryd.func67, Tryd.ntmps67
  go_wp2_with fail
  go_ret
  exact ⟨rfl, rfl⟩
/-- Step's own closures -/
theorem step1_any (cp : Nat) (v : Value) (W : World) (h : PoAt W b p v) (hp : W.cell? ⟨cp, 0, none⟩ = some (.pointer (some ⟨b, 0, none⟩))) :
    Calls Tryd.prog 32 #[.pointer (some ⟨cp, 0, none⟩)] W fun e w' => e = .returned (.tuple #[]) ∧ PoAt w' b p.ring v ∧ Fr b W w' := by
  have HA : Hid (∀ W, PoAt W b p v → Calls Tryd.prog 33 #[.pointer (some ⟨b, 0, none⟩)] W fun e w' => e = .returned (.tuple #[]) ∧ PoAt w' b p.ring v ∧ Fr b W w') := fun W h => ring_any v W h
  have H : Hid (PoAt W b p v) := h
  clear h
  go_enter Tryd.func32, Tryd.ntmps32
  go_wp2_with fail
  refine (HA.out _ H.out).mono ?_
  rintro e w2 ⟨rfl, h2, hF⟩
  have H2 : Hid _ := And.intro h2 hF
  clear h2 hF
  go_wp2_with fail
  go_end0
  exact ⟨rfl, H2.out.1, H2.out.2⟩
theorem step2_any (o : p.Ok) (cp : Nat) (v : Value) (W : World) (h : PoAt W b p v) (hL : LaidP W) (hp : W.cell? ⟨cp, 0, none⟩ = some (.pointer (some ⟨b, 0, none⟩))) :
    Calls Tryd.prog 34 #[.pointer (some ⟨cp, 0, none⟩)] W fun e w' => e = .returned (.int .i64 p.until) ∧ w' = W := by
  have HA : Hid (∀ W, PoAt W b p v → LaidP W → Calls Tryd.prog 35 #[.pointer (some ⟨b, 0, none⟩)] W fun e w' => e = .returned (.int .i64 p.until) ∧ w' = W) := fun W h hL => until_any o v W h hL
  have H : Hid (PoAt W b p v ∧ LaidP W) := ⟨h, hL⟩
  clear h hL
  go_enter Tryd.func34, Tryd.ntmps34
  go_wp2_with fail
  refine (HA.out _ H.out.1 H.out.2).mono ?_
  rintro e w' ⟨rfl, hw'⟩
  obtain rfl := hw'.symm
  go_wp2_with fail
  go_ret
  exact ⟨rfl, rfl⟩
theorem step3_any (o : p.Ok) (c : Int) (c0 : 0 ≤ c) (c1 : c ≤ 1000000) (cp : Nat) (v : Value) (W : World) (h : PoAt W b p v) (hL : LaidP W) (hp : W.cell? ⟨cp, 0, none⟩ = some (.pointer (some ⟨b, 0, none⟩))) :
    Calls Tryd.prog 36 #[.int .i64 c, .pointer (some ⟨cp, 0, none⟩)] W fun e w' => e = .returned (.tuple #[]) ∧ PoAt w' b (p.count c) v ∧ Fr b W w' := by
  have HA : Hid (∀ W, PoAt W b p v → LaidP W → Calls Tryd.prog 37 #[.pointer (some ⟨b, 0, none⟩), .int .i64 c] W fun e w' => e = .returned (.tuple #[]) ∧ PoAt w' b (p.count c) v ∧ Fr b W w') := fun W h hL => count_any o c c0 c1 v W h hL
  have H : Hid (PoAt W b p v ∧ LaidP W) := ⟨h, hL⟩
  clear h hL
  go_enter Tryd.func36, Tryd.ntmps36
  go_wp2_with fail
  refine (HA.out _ H.out.1 H.out.2).mono ?_
  rintro e w2 ⟨rfl, h2, hF⟩
  have H2 : Hid _ := And.intro h2 hF
  clear h2 hF
  go_wp2_with fail
  go_end0
  exact ⟨rfl, H2.out.1, H2.out.2⟩
/-- the alarm lets clocks go by -/
def Po.passAl (p : Po) (c : Int) : Po := if p.al = 0 then p else if p.al - c = 0 then ({ p with al := 0 } : Po).ring else { p with al := p.al - c }
set_option maxRecDepth 100000 in
theorem passAl_any (o : p.Ok) (c : Int) (c0 : 0 ≤ c) (c1 : c ≤ 1000000) (s cp : Nat) (ns : s ≠ b) (ns1 : s + 1 ≠ b) (np : cp ≠ b) (v : Value) (W : World) (h : PoAt W b p v)
    (hs : W.cell? ⟨s, 0, none⟩ = some (.pointer (some ⟨b, 9, none⟩))) (hs1 : W.cell? ⟨s + 1, 0, none⟩ = some (.func (.func 32) #[] #[.pointer (some ⟨cp, 0, none⟩)])) (hp : W.cell? ⟨cp, 0, none⟩ = some (.pointer (some ⟨b, 0, none⟩))) :
    Calls Tryd.prog 68 #[.int .i64 c, .pointer (some ⟨s, 0, none⟩), .pointer (some ⟨s + 1, 0, none⟩)] W fun e w' => e = .returned (.tuple #[]) ∧ PoAt w' b (p.passAl c) v ∧ Fr b W w' := by
  have HR : Hid (∀ W, PoAt W b { p with al := 0 } v → W.cell? ⟨cp, 0, none⟩ = some (.pointer (some ⟨b, 0, none⟩)) → Calls Tryd.prog 32 #[.pointer (some ⟨cp, 0, none⟩)] W fun e w' => e = .returned (.tuple #[]) ∧ PoAt w' b ({ p with al := 0 } : Po).ring v ∧ Fr b W w') := fun W h hp => step1_any cp v W h hp
  have f9 := h.fz 9
  obtain ⟨k0, k1, k2, k3, k4, k5, k6, k7, k8, k9, k10, k11, k12⟩ := h.all
  have a0 := o.al.1
  have a1 := o.al.2
  have H : Hid (PoAt W b p v) := h
  have HP : Hid _ := hp
  have lp : cp < W.heap.size := World.block_lt_of_cell? _ _ hp
  unfold Po.passAl
  clear h hp
  by_cases e0 : p.al = 0
  · have eb : (p.al == 0) = true := by rw [e0]; rfl
    have HZ : Hid (p.al = 0) := e0
    rw [if_pos e0]
    clear e0
    go_enter Tryd.func68, Tryd.ntmps68
    go_wp2
    exact bodyPost_ret (v := .tuple #[]) (results_none rfl _ _ _) rfl ⟨rfl, H.out, Fr.refl _ _⟩
  · rw [if_neg e0]
    have eb : (p.al == 0) = false := by simp; exact e0
    clear e0
    have w0 : IntKind.i64.wrap (p.al - c) = p.al - c := by simp [IntKind.wrap, IntKind.bits, IntKind.signed]; omega
    by_cases e1 : p.al - c = 0
    · rw [if_pos e1]
      have HZ : Hid (p.al - c = 0) := e1
      have eb1 : (p.al - c == 0) = true := by rw [e1]; rfl
      clear e1
      go_enter Tryd.func68, Tryd.ntmps68
      go_wp2_with fail
      refine (HR.out _ (PoAt.set (p := p) H.out 9 _ (by rw [HZ.out]; rfl)) (((Fr.refl b W).setCell (k := 9)).cell lp np |>.trans HP.out)).mono ?_
      rintro e w2 ⟨rfl, h2, hF⟩
      have H2 : Hid _ := And.intro h2 hF
      clear h2 hF
      go_wp2_with fail
      go_end0
      exact ⟨rfl, H2.out.1, ((Fr.refl b W).setCell).trans H2.out.2⟩
    · rw [if_neg e1]
      have eb1 : (p.al - c == 0) = false := by simp; omega
      clear e1
      go_enter Tryd.func68, Tryd.ntmps68
      go_wp2_with fail
      go_end0
      exact ⟨rfl, PoAt.set (p := p) H.out 9 _ rfl, (Fr.refl b W).setCell⟩
theorem Po.Ok.passAl (o : p.Ok) (c : Int) (c0 : 0 ≤ c) (c1 : p.al = 0 ∨ c ≤ p.al) : (p.passAl c).Ok := by
  have a0 := o.al.1
  have a1 := o.al.2
  unfold Po.passAl
  split
  · exact o
  · split
    · exact Po.Ok.ring { o with al := (show (0 : Int) ≤ 0 ∧ (0 : Int) ≤ 4 by decide) }
    · exact { o with al := (show 0 ≤ p.al - c ∧ p.al - c ≤ 4 by omega) }
end Go.Proofs.YteomldlmdpphaaaDoor
