/- Proto: who gives up is caught. -/
import Derived.Test.YtnengokobkehfaaPrH
namespace Go.Proofs.Ytnengokobkehfaa
open Go.RowKit
set_option linter.unusedVariables false
variable {w w' W : World}
set_option maxRecDepth 100000 in
set_option maxHeartbeats 600000 in
theorem catch_idle (p : Addr) (w : World) :
    CallsD Try.prog 53 #[.pointer (some p)] .returning w fun e u' w' => e = .returned (.tuple #[]) ∧ u' = .returning ∧ w' = w := by
  refine callsD_of_wpS Try.func53 rfl fun c₀ cs hu => ?_
  apply wpS_seq
  apply wpS_region
  simp [wpOpsS, go_sem, recoverD, hu, Try.ntmps53, Exit.thenS]
  refine wpS_of_wp ?_
  go_wp2
  cases c₀
  simp_all [bodyPostS, results, Try.results53]
theorem run_gave (x : Int) (w : World) : (Instr.typeAssert (.iface 96 (.agg #[.int .i64 x])) 20 96 true).run Try.prog w = .ok (.tuple #[.agg #[.int .i64 x], .bool true]) w := by
  kernel_rfl
set_option maxRecDepth 100000 in
set_option maxHeartbeats 600000 in
theorem catch_gave (b : Nat) (x : Int) (w : World) (hc : w.cell? ⟨b, 0, none⟩ = some (.int .i64 0)) (hz : w.frozen? ⟨b, 0, none⟩ = false) :
    CallsD Try.prog 53 #[.pointer (some ⟨b, 0, none⟩)] (.panicking (gaveV x)) w fun e u' w' => e = .returned (.tuple #[]) ∧ u' = .panicking [{ v := .iface 96 (.agg #[.int .i64 x]), recovered := true }] ∧ w' = (w.setCell ⟨b, 0, none⟩ (.int .i64 x)).alloc (.cells #[.int .i64 x] 96) := by
  have hb := World.block_lt_of_cell? _ _ hc
  have hta := run_gave
  refine callsD_of_wpS Try.func53 rfl fun c₀ cs hu => ?_
  apply wpS_seq
  apply wpS_region
  simp [wpOpsS, go_sem, recoverD, hu, gaveV, Try.ntmps53, Exit.thenS]
  refine wpS_of_wp ?_
  go_wp2
  simp [bodyPostS, results, Try.results53]
/-- what comes of reading a frame into a variable -/
def VarAns (W : World) (cb : Nat) (r : Except Int C) (x : Ending) (w' : World) : Prop :=
  match r with
  | .ok c => (∃ u, x = .returned (.tuple #[]) ∧ w'.heap[cb]? = some (.cells (cCells c u) 63 (0, 0)) ∧ BsC W.heap.size w' u c) ∧ Fr cb W w'
  | .error e => x = .panicked (gaveV e) ∧ Up W w'
set_option maxRecDepth 100000 in
set_option maxHeartbeats 600000 in
theorem content1_any {T : Tab} {tv : Value} {g O o n cp bf bk cb : Nat} {f : Nat → Int} (W0 W : World) (hT : TabAt W0 tv T) (hU0 : Up W0 W) (hD : Dt W g O (o + n) f) (hn : 1 ≤ n) (hc : n ≤ cp) (hm : cp ≤ maxLen) (kf : W.cell? ⟨bf, 0, none⟩ = some (.slice (some ⟨g, O + o, none⟩) n cp)) (kk : W.cell? ⟨bk, 0, none⟩ = some tv) (kc : W.heap[cb]? = some (.cells (cCells (C0 0) u0) 63 (0, 0))) :
    Calls Try.prog 44 #[.pointer (some ⟨bf, 0, none⟩), .pointer (some ⟨bk, 0, none⟩), .pointer (some ⟨cb, 0, none⟩)] W (VarAns W cb (parseF T f o n)) := by
  have HT : Hid (TabAt W0 tv T) := hT
  have HU0 : Hid (Up W0 W) := hU0
  have HD : Hid (Dt W g O (o + n) f) := hD
  have HKC : Hid (W.heap[cb]? = some (.cells (cCells (C0 0) u0) 63 (0, 0))) := kc
  have HG : Hid (g < W.heap.size) := World.block_lt_of_cell? _ _ (hD.cell 0 (by omega))
  have hcl := heap_at kc
  have hfl := World.block_lt_of_cell? _ _ kf
  have hkl := World.block_lt_of_cell? _ _ kk
  obtain ⟨R, hR⟩ : ∃ R, R = parseF T f o n := ⟨_, rfl⟩
  have HP : Hid (R = parseF T f o (o + n - o)) := by show _ = _; rw [hR, show o + n - o = n by omega]
  rw [← hR]
  clear hR hT hU0 hD kc
  go_enter Try.func44, Try.ntmps44
  go_wp2_with fail
  have HRs : Hid (Rs (W.alloc (.cells #[.slice (some ⟨g, O + o, none⟩) n cp] 88)) W.heap.size g O o (o + n) f) := ⟨⟨cp, ⟨O + o, by rw [show o + n - o = n by omega]; exact heap_alloc_new W _, fun _ => rfl⟩, by omega, hm⟩, HD.out.up ((Up.refl W).alloc _), by omega, by have := HG.out; omega⟩
  refine (readContent_any W0 _ HT.out (HU0.out.trans ((Up.refl W).alloc _)) HU0.out.size HRs.out (by omega)).mono ?_
  rw [← HP.out]
  cases R with
  | error x =>
    rintro e w1 ⟨rfl, hF⟩
    go_wp2
    exact ⟨rfl, rfl, Fr.up (Up.refl W) (Nat.le_refl _) ((Fr.ofUp ((Up.refl W).alloc _)).trans hF)⟩
  | ok c =>
    rintro e w1 ⟨⟨u, rfl, hB⟩, hF⟩
    have HU1 : Hid (Up W w1) := Fr.up (Up.refl W) (Nat.le_refl _) ((Fr.ofUp ((Up.refl W).alloc _)).trans hF)
    have HB : Hid (BsC (W.heap.size + 1) w1 u c) := hB.mono (by simp)
    have HC1 : Hid (w1.heap[cb]? = some (.cells (cCells (C0 0) u0) 63 (0, 0))) := (HU1.out.block _ hcl).trans HKC.out
    clear hB hF
    go_wp2_with (refine wpList_store_rowTo rfl 63 _ _ rfl rfl cb (cCells c u) rfl rfl 63 _ HC1.out (by kernel_rfl) rfl (cCells_one c HB.out.one) ?_)
    go_end0
    exact ⟨⟨u, rfl, setRow_heap _ _ _ _ _ _ HC1.out, (HB.out.keep fun b hb _ => setRow_other _ _ _ _ (by omega)).mono (by omega)⟩, (Fr.ofUp HU1.out).setRow⟩
/-- what comes of an attempt -/
def AttAns (W : World) (cb : Nat) (r : Except Int C) (x : Ending) (w' : World) : Prop :=
  match r with
  | .ok c => (∃ u, x = .returned (.int .i64 0) ∧ w'.heap[cb]? = some (.cells (cCells c u) 63 (0, 0)) ∧ BsC W.heap.size w' u c) ∧ Fr cb W w'
  | .error e => x = .returned (.int .i64 e) ∧ Up W w'
set_option maxRecDepth 100000 in
set_option maxHeartbeats 600000 in
theorem attempt_any {T : Tab} {tv : Value} {g O o n cp bf bk cb : Nat} {f : Nat → Int} (W0 W : World) (hT : TabAt W0 tv T) (hU0 : Up W0 W) (hD : Dt W g O (o + n) f) (hn : 1 ≤ n) (hc : n ≤ cp) (hm : cp ≤ maxLen) (kf : W.cell? ⟨bf, 0, none⟩ = some (.slice (some ⟨g, O + o, none⟩) n cp)) (kk : W.cell? ⟨bk, 0, none⟩ = some tv) (kc : W.heap[cb]? = some (.cells (cCells (C0 0) u0) 63 (0, 0))) :
    Calls Try.prog 43 #[.func (.func 44) #[] #[.pointer (some ⟨bf, 0, none⟩), .pointer (some ⟨bk, 0, none⟩), .pointer (some ⟨cb, 0, none⟩)]] W (AttAns W cb (parseF T f o n)) := by
  have hmf : ∀ (fn : Fn) (first cap : Array Value) (w : World), (Instr.makeFunc fn first cap).run Try.prog w = .ok (.func fn first cap) w := fun _ _ _ _ => rfl
  have u1 : Up W (W.alloc (.cells #[.int .i64 0] 28)) := (Up.refl W).alloc _
  have hcl := heap_at kc
  have HC : Hid _ := content1_any W0 (W.alloc (.cells #[.int .i64 0] 28)) hT (hU0.trans u1) (hD.up u1) hn hc hm ((u1.cell (World.block_lt_of_cell? _ _ kf)).trans kf) ((u1.cell (World.block_lt_of_cell? _ _ kk)).trans kk) ((u1.block _ (heap_at kc)).trans kc)
  have HU1 : Hid _ := u1
  clear hT hU0 hD kf kk kc u1
  obtain ⟨R, hR⟩ : ∃ R, R = parseF T f o n := ⟨_, rfl⟩
  rw [← hR] at HC ⊢
  clear hR
  go_enter_defers Try.func43, Try.ntmps43
  go_wp2_with fail
  refine Calls.mono HC.out ?_
  cases R with
  | error x =>
    rintro e w1 ⟨rfl, hU⟩
    have hh := (hU.block W.heap.size (by simp)).trans (heap_alloc_new W _)
    have k0 : w1.cell? ⟨W.heap.size, 0, none⟩ = some (.int .i64 0) := heap_cell hh rfl
    have z0 : w1.frozen? ⟨W.heap.size, 0, none⟩ = false := heap_fz hh
    go_wp2
    refine leaves_cons (f := 53) (args := #[.pointer (some ⟨W.heap.size, 0, none⟩)]) (by simp) (by simp [go_sem]) ?_
    refine (catch_gave W.heap.size x _ k0 z0).mono ?_
    rintro e u' w2 ⟨rfl, rfl, rfl⟩
    have HE : AttAns W cb (Except.error x) (.returned (.int .i64 x)) ((w1.setCell ⟨W.heap.size, 0, none⟩ (.int .i64 x)).alloc (.cells #[.int .i64 x] 96)) := ⟨rfl, ((HU1.out.trans hU).setCell (Nat.le_refl _) _).alloc _⟩
    have hlt : W.heap.size < w1.heap.size := World.block_lt_of_cell? _ _ k0
    simp [Leaves, settle, results, Try.results43, go_sem, k0, hlt]
    exact HE
  | ok c =>
    rintro e w1 ⟨⟨u, rfl, hH, hB⟩, hF⟩
    have hh := (hF.block W.heap.size (by simp) (by omega)).trans (heap_alloc_new W _)
    have k0 : w1.cell? ⟨W.heap.size, 0, none⟩ = some (.int .i64 0) := heap_cell hh rfl
    have z0 : w1.frozen? ⟨W.heap.size, 0, none⟩ = false := heap_fz hh
    go_wp2
    refine leaves_cons (f := 53) (args := #[.pointer (some ⟨W.heap.size, 0, none⟩)]) (by simp) (by simp [go_sem]) ?_
    refine (catch_idle ⟨W.heap.size, 0, none⟩ _).mono ?_
    rintro e u' w2 ⟨rfl, rfl, rfl⟩
    have fr : Fr W.heap.size w1 (w1.setCell ⟨W.heap.size, 0, none⟩ (.int .i64 0)) := (Fr.refl _ _).setCell
    have hs1 := hF.size
    simp only [World.size_alloc] at hs1
    have HE : AttAns W cb (Except.ok c) (.returned (.int .i64 0)) (w1.setCell ⟨W.heap.size, 0, none⟩ (.int .i64 0)) := by
      refine ⟨⟨u, rfl, (fr.block _ (heap_at hH) (by omega)).trans hH, ?_⟩, ?_⟩
      · exact (hB.keep fun b hb hb2 => fr.block b hb2 (by simp at hb; omega)).mono (by simp)
      · have f1 := (Fr.ofUp HU1.out).trans hF
        exact ⟨fr.os.trans f1.os, fr.output.trans f1.output, Nat.le_trans f1.size fr.size, fun b hb hn => (fr.block b (by omega) (by omega)).trans (f1.block b hb hn)⟩
    simp [Leaves, settle, results, Try.results43, go_sem, k0]
    exact HE
end Go.Proofs.Ytnengokobkehfaa
