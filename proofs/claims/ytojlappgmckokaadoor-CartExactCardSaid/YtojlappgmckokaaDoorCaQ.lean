/- Cart: a cartridge: its ROM read, its registers written. -/
import Derived.Test.YtojlappgmckokaaDoorCaP
namespace Go.Proofs.YtojlappgmckokaaDoor
open Go.Shelf Go.RowKit
set_option linter.unusedVariables false
set_option linter.unusedSimpArgs false
variable {w w' W : World} {b : Nat} {A : Ad} {C : Ct}
theorem CtAt.readLow {a : Nat} (h : CtAt W A C) (ha : a < 16384) : Calls Tryd.prog 17 #[.pointer (some ⟨A.cb, 0, none⟩), .int .i64 ((a : Nat) : Int)] W fun e w' => e = .returned (.int .u8 (C.f ((C.m.lower * 16384 + a) % C.n))) ∧ Up W w' := by
  obtain ⟨cb, rg, nc, rb, rc, mb, v⟩ := A
  obtain ⟨hd, ty, mpr, bk, rm, bat, n, f, rf, ⟨kd, on, low, high, pick, mode⟩⟩ := C
  obtain ⟨h1, h2, h3, h4, ⟨i0, i1, i2, i3, i4, i5⟩, n1, n2, ⟨n3, n4⟩, ⟨r3, r4⟩, r5, d1, d2, d3, d4, d5, d6⟩ := h
  have k6 : W.cell? ⟨cb, 6, none⟩ = some (.slice (some ⟨rg, 0, none⟩) n nc) := heap_cell h1 rfl
  have k8 : W.cell? ⟨cb, 8, none⟩ = some v := heap_cell h1 rfl
  have i2 : low ≤ 255 := i2
  have i3 : high ≤ 1 := i3
  have i4 : pick ≤ 15 := i4
  have i5 : mode ≤ 1 := i5
  have m1 : 1 ≤ n := Nat.le_trans (by decide) n1
  rcases h4 with ⟨hk, hv⟩ | ⟨hk, hv, hb⟩
  · have hk : kd = 0 := hk
    have hv : v = .iface 121 (.agg #[]) := hv
    subst hk hv
    exact readLow_0 (q := 0) h2 k6 k8 m1 n2 n3 n4 ha (by decide) (fun w u => lower_0)
  · have hb : W.heap[mb]? = some (.cells (Mp.cells ⟨kd, on, low, high, pick, mode⟩).toArray (Mp.bty kd) (0, 0)) := hb
    have hv : v = .iface (Mp.pty kd) (.pointer (some ⟨mb, 0, none⟩)) := hv
    have hk : kd = 1 ∨ kd = 2 ∨ kd = 3 ∨ kd = 5 := hk
    rcases hk with rfl | rfl | rfl | rfl
    · have hv : v = .iface 108 (.pointer (some ⟨mb, 0, none⟩)) := hv
      subst hv
      exact readLow_1 (q := 32 * (if mode = 0 then 0 else pick)) h2 k6 k8 m1 n2 n3 n4 ha (by split <;> omega) (fun w u => (lower_1 (cell_up u (heap_cell hb rfl)) (cell_up u (heap_cell hb rfl)) i4 i5).mono fun e w' ⟨a1, a2⟩ => ⟨a1, by rw [a2]; exact Up.refl w⟩)
    · have hv : v = .iface 111 (.pointer (some ⟨mb, 0, none⟩)) := hv
      subst hv
      exact readLow_2 (q := 0) h2 k6 k8 m1 n2 n3 n4 ha (by decide) (fun w u => lower_2.mono fun e w' ⟨a1, a2⟩ => ⟨a1, by rw [a2]; exact Up.refl w⟩)
    · have hv : v = .iface 114 (.pointer (some ⟨mb, 0, none⟩)) := hv
      subst hv
      exact readLow_3 (q := 0) h2 k6 k8 m1 n2 n3 n4 ha (by decide) (fun w u => lower_3.mono fun e w' ⟨a1, a2⟩ => ⟨a1, by rw [a2]; exact Up.refl w⟩)
    · have hv : v = .iface 117 (.pointer (some ⟨mb, 0, none⟩)) := hv
      subst hv
      exact readLow_5 (q := 0) h2 k6 k8 m1 n2 n3 n4 ha (by decide) (fun w u => lower_5.mono fun e w' ⟨a1, a2⟩ => ⟨a1, by rw [a2]; exact Up.refl w⟩)
theorem CtAt.readHigh {a : Nat} (h : CtAt W A C) (ha : a < 16384) : Calls Tryd.prog 17 #[.pointer (some ⟨A.cb, 0, none⟩), .int .i64 ((a + 16384 : Nat) : Int)] W fun e w' => e = .returned (.int .u8 (C.f ((C.m.upper * 16384 + a) % C.n))) ∧ Up W w' := by
  obtain ⟨cb, rg, nc, rb, rc, mb, v⟩ := A
  obtain ⟨hd, ty, mpr, bk, rm, bat, n, f, rf, ⟨kd, on, low, high, pick, mode⟩⟩ := C
  obtain ⟨h1, h2, h3, h4, ⟨i0, i1, i2, i3, i4, i5⟩, n1, n2, ⟨n3, n4⟩, ⟨r3, r4⟩, r5, d1, d2, d3, d4, d5, d6⟩ := h
  have k6 : W.cell? ⟨cb, 6, none⟩ = some (.slice (some ⟨rg, 0, none⟩) n nc) := heap_cell h1 rfl
  have k8 : W.cell? ⟨cb, 8, none⟩ = some v := heap_cell h1 rfl
  have i2 : low ≤ 255 := i2
  have i3 : high ≤ 1 := i3
  have i4 : pick ≤ 15 := i4
  have i5 : mode ≤ 1 := i5
  have m1 : 1 ≤ n := Nat.le_trans (by decide) n1
  rcases h4 with ⟨hk, hv⟩ | ⟨hk, hv, hb⟩
  · have hk : kd = 0 := hk
    have hv : v = .iface 121 (.agg #[]) := hv
    subst hk hv
    exact readHigh_0 (q := 1) h2 k6 k8 m1 n2 n3 n4 ha (by decide) (fun w u => upper_0)
  · have hb : W.heap[mb]? = some (.cells (Mp.cells ⟨kd, on, low, high, pick, mode⟩).toArray (Mp.bty kd) (0, 0)) := hb
    have hv : v = .iface (Mp.pty kd) (.pointer (some ⟨mb, 0, none⟩)) := hv
    have hk : kd = 1 ∨ kd = 2 ∨ kd = 3 ∨ kd = 5 := hk
    rcases hk with rfl | rfl | rfl | rfl
    · have hv : v = .iface 108 (.pointer (some ⟨mb, 0, none⟩)) := hv
      subst hv
      exact readHigh_1 (q := low + 32 * pick) h2 k6 k8 m1 n2 n3 n4 ha (by omega) (fun w u => upper_1 (cell_up u (heap_cell hb rfl)) (cell_up u (heap_cell hb rfl)) i2 i4)
    · have hv : v = .iface 111 (.pointer (some ⟨mb, 0, none⟩)) := hv
      subst hv
      exact readHigh_2 (q := low) h2 k6 k8 m1 n2 n3 n4 ha (by omega) (fun w u => (upper_2 (cell_up u (heap_cell hb rfl)) i2).mono fun e w' ⟨a1, a2⟩ => ⟨a1, by rw [a2]; exact Up.refl w⟩)
    · have hv : v = .iface 114 (.pointer (some ⟨mb, 0, none⟩)) := hv
      subst hv
      exact readHigh_3 (q := low) h2 k6 k8 m1 n2 n3 n4 ha (by omega) (fun w u => (upper_3 (cell_up u (heap_cell hb rfl)) i2).mono fun e w' ⟨a1, a2⟩ => ⟨a1, by rw [a2]; exact Up.refl w⟩)
    · have hv : v = .iface 117 (.pointer (some ⟨mb, 0, none⟩)) := hv
      subst hv
      exact readHigh_5 (q := low + 256 * high) h2 k6 k8 m1 n2 n3 n4 ha (by omega) (fun w u => upper_5 (cell_up u (heap_cell hb rfl)) (cell_up u (heap_cell hb rfl)) i2 i3)
def Ct.set (C : Ct) (a x : Nat) : Ct := { C with m := C.m.set a x }
theorem CtAt.changed {m : Mp} (h : CtAt W A C) (f : Fr A.mb W w') (hm : m.In) (hp : MpAt w' A.v m A.mb) : CtAt w' A { C with m := m } :=
  ⟨(f.block A.cb (heap_at h.blk) h.d3).trans h.blk, h.rom.of_block (f.block A.rg h.rom.lt h.d5), h.ram.of_block (f.block A.rb h.ram.lt h.d6), hp, hm, h.n1, h.n2, h.nc, h.rc, h.rm, h.d1, h.d2, h.d3, h.d4, h.d5, h.d6⟩
theorem CtAt.writeRom {a x : Nat} (h : CtAt W A C) (ha : a < 32768) (hx : x ≤ 255) : Calls Tryd.prog 18 #[.pointer (some ⟨A.cb, 0, none⟩), .int .i64 (a : Int), .int .u8 (x : Int)] W fun e w' => e = .returned (.tuple #[]) ∧ CtAt w' A (C.set a x) ∧ Fr A.mb W w' := by
  have k8 : W.cell? ⟨A.cb, 8, none⟩ = some A.v := heap_cell h.blk rfl
  have hin := Mp.set_in h.inn (a := a) hx
  rcases h.mp with ⟨hk, hv⟩ | ⟨hk, hv, hb⟩
  · rw [hv] at k8
    refine writeRom_0 k8 ha (fun w' hp => hp) (set_0.mono fun e w' ⟨h1, h2⟩ => ⟨h1, h1, h.changed (Fr.ofUp h2) hin ?_, Fr.ofUp h2⟩)
    exact Or.inl ⟨by rw [Mp.set_kd]; exact hk, hv⟩
  · obtain ⟨cb, rg, nc, rb, rc, mb, v⟩ := A
    obtain ⟨hd, ty, mpr, bk, rm, bat, n, f, rf, ⟨kd, on, low, high, pick, mode⟩⟩ := C
    have hb : W.heap[mb]? = some (.cells (Mp.cells ⟨kd, on, low, high, pick, mode⟩).toArray (Mp.bty kd) (0, 0)) := hb
    have hv : v = .iface (Mp.pty kd) (.pointer (some ⟨mb, 0, none⟩)) := hv
    have hk : kd = 1 ∨ kd = 2 ∨ kd = 3 ∨ kd = 5 := hk
    have k8 : W.cell? ⟨cb, 8, none⟩ = some v := k8
    have hs := Mp.set_kd ⟨kd, on, low, high, pick, mode⟩ a x
    rcases hk with rfl | rfl | rfl | rfl
    · rw [hv] at k8
      refine writeRom_1 k8 ha (fun w' hp => hp) ((set_1 (high := high) (pick := pick) (mode := mode) hb ha hx).mono fun e w' ⟨h1, h2, h3⟩ => ⟨h1, h1, h.changed h3 hin (Or.inr ⟨by rw [hs]; simp, by rw [hs]; exact hv, by rw [hs]; exact h2⟩), h3⟩)
    · rw [hv] at k8
      refine writeRom_2 k8 ha (fun w' hp => hp) ((set_2 (high := high) (pick := pick) (mode := mode) hb ha hx).mono fun e w' ⟨h1, h2, h3⟩ => ⟨h1, h1, h.changed h3 hin (Or.inr ⟨by rw [hs]; simp, by rw [hs]; exact hv, by rw [hs]; exact h2⟩), h3⟩)
    · rw [hv] at k8
      refine writeRom_3 k8 ha (fun w' hp => hp) ((set_3 (high := high) (pick := pick) (mode := mode) hb ha hx).mono fun e w' ⟨h1, h2, h3⟩ => ⟨h1, h1, h.changed h3 hin (Or.inr ⟨by rw [hs]; simp, by rw [hs]; exact hv, by rw [hs]; exact h2⟩), h3⟩)
    · rw [hv] at k8
      refine writeRom_5 k8 ha (fun w' hp => hp) ((set_5 (high := high) (pick := pick) (mode := mode) hb ha hx).mono fun e w' ⟨h1, h2, h3⟩ => ⟨h1, h1, h.changed h3 hin (Or.inr ⟨by rw [hs]; simp, by rw [hs]; exact hv, by rw [hs]; exact h2⟩), h3⟩)
end Go.Proofs.YtojlappgmckokaaDoor
