/- What a rule says of an opcode, over the translation. -/
import Derived.Test.YtmboogkpbcjfoaaDoorTabB
import Derived.Test.YtmboogkpbcjfoaaDoorTabL
namespace Go.Proofs.YtmboogkpbcjfoaaDoor
open Go.RowKit
set_option linter.unusedVariables false
/-- a rule that the walk can go over -/
structure Fine (r : Rule) : Prop where
  asc : ∀ c ∈ r.text, c.toNat < 128
  len : r.text.length ≤ 100
  ys : r.ys < 256
  c0 : 0 ≤ r.cycles
  c1 : r.cycles ≤ 1000
  t0 : 0 ≤ r.taken
  t1 : r.taken ≤ 1000
  m0 : 0 ≤ r.more
  m1 : r.more ≤ 1000
theorem Laid.up {w : World} (h : Laid w) (o : Obj) : Laid (w.alloc o) := h.kept (Kept.ofBelow ((Below.refl _ w).alloc (Nat.le_refl _) _))
theorem bcell {W w1 : World} (hb : Below W.heap.size W w1) : (∀ b o, b < W.heap.size → w1.cell? ⟨b, o, none⟩ = W.cell? ⟨b, o, none⟩) ∧ (∀ b o, b < W.heap.size → w1.frozen? ⟨b, o, none⟩ = W.frozen? ⟨b, o, none⟩) :=
  ⟨fun b o h => hb.cell (p := ⟨b, o, none⟩) h, fun b o h => hb.frozen (p := ⟨b, o, none⟩) h⟩
theorem fillT_len (y z : Nat) (hy : y < 8) (hz : z < 8) : ∀ t : List UInt8, (fillT y z t).length ≤ 5 * t.length
  | [] => by simp [fillT]
  | c :: r => by
    have := fillT_len y z hy hz r
    have := fillC_len y z c hy hz
    unfold fillT at *
    simp only [List.flatMap_cons, List.length_append, List.length_cons]
    omega
set_option maxRecDepth 1000000 in
set_option maxHeartbeats 600000 in
theorem opcode_any (r : Rule) (y z : Nat) (w : World) (hr : Fine r) (hy : y < 8) (hz : z < 8) (L : Laid w) :
    Calls Tryd.prog 10 #[.agg #[.int .i64 r.z, .int .u8 r.ys, .string ⟨r.text.toArray⟩, .int .i64 r.bytes, .int .i64 r.cycles, .int .i64 r.taken, .int .i64 r.more], .int .i64 y, .int .i64 z] w fun e w' =>
      e = .returned (.agg #[.string ⟨(opcOf r y z).text.toArray⟩, .int .i64 (opcOf r y z).arg, .int .i64 (opcOf r y z).y, .int .i64 (opcOf r y z).bytes, .int .i64 (opcOf r y z).cycles, .int .i64 (opcOf r y z).taken]) ∧ Below w.heap.size w w' := by
  obtain ⟨rz, ys, t, rb, rc, rt, rm⟩ := r
  obtain ⟨asc, len, hys, c0, c1, t0, t1, m0, m1⟩ := hr
  simp only at asc len c0 c1 t0 t1 m0 m1 ⊢
  have HA : Hid (∀ c ∈ t, c.toNat < 128) := asc
  clear asc
  obtain ⟨n, hm⟩ := L.most.2
  have hml := L.most.1
  have h6 : w.cell? ⟨0, 6, none⟩ = some (.string ⟨#[91, 104, 108, 93]⟩) := L.r.2 6 (by decide)
  have h6l := L.r.1
  have hTl := fillT_len y z hy hz t
  obtain ⟨T, hT⟩ : ∃ T, T = fillT y z t := ⟨_, rfl⟩
  obtain ⟨A, hA⟩ : ∃ A, A = fillA t 0 := ⟨_, rfl⟩
  have HT : Hid (fillT y z t = T) := hT.symm
  have HAr : Hid (fillA t 0 = A) := hA.symm
  rw [← hT] at hTl
  clear hT hA
  go_enter Tryd.func10, Tryd.ntmps10
  go_wp2_with fail
  refine (fill_any t y z _ HA.out len hy hz ((L.up _).up _)).mono ?_
  rw [HT.out, HAr.out]
  rintro e w1 ⟨rfl, hb1⟩
  have hz1 : w.heap.size + 2 ≤ w1.heap.size := by have := hb1.size; simp at this; omega
  have hbw : Below w.heap.size w w1 := (((Below.refl _ w).alloc (Nat.le_refl _) _).alloc (by simp) _).trans (hb1.mono (by simp; omega))
  have hh : ∀ o, (w1.alloc o).heap[w.heap.size + 1]? = some (.cells #[.string ⟨#[]⟩, .int .i64 0, .int .i64 0, .int .i64 0, .int .i64 0, .int .i64 0] 31 (0, 0)) := by
    intro o
    rw [Below.heap_alloc _ _ _ (by omega), hb1.block _ (by simp)]
    simpa using heap_alloc_new (w.alloc (.cells #[.int .i64 rz, .int .u8 ys, .string ⟨t.toArray⟩, .int .i64 rb, .int .i64 rc, .int .i64 rt, .int .i64 rm] 40)) (.cells #[.string ⟨#[]⟩, .int .i64 0, .int .i64 0, .int .i64 0, .int .i64 0, .int .i64 0] 31)
  have HH : Hid (∀ o, (w1.alloc o).heap[w.heap.size + 1]? = some (.cells #[.string ⟨#[]⟩, .int .i64 0, .int .i64 0, .int .i64 0, .int .i64 0, .int .i64 0] 31 (0, 0))) := hh
  have hq : ∀ k, w1.cell? ⟨w.heap.size, k, none⟩ = (#[.int .i64 rz, .int .u8 ys, .string ⟨t.toArray⟩, .int .i64 rb, .int .i64 rc, .int .i64 rt, .int .i64 rm] : Array Value)[k]? := by
    intro k
    rw [hb1.cell (p := ⟨w.heap.size, k, none⟩) (by simp; omega)]
    simp
  have q3 := hq 3
  have q4 := hq 4
  have q5 := hq 5
  have q6 := hq 6
  clear hh hq
  have E1 : Hid (w1.cell? ⟨8, 0, none⟩ = some (.int .i64 n)) := (hbw.cell (p := ⟨_, _, none⟩) hml).trans hm
  have hml1 : 8 < w1.heap.size := by omega
  have h6' : ∀ o, (w1.alloc o).cell? ⟨0, 6, none⟩ = some (.string ⟨#[91, 104, 108, 93]⟩) := fun o => (World.cell?_alloc_lt _ _ _ (show 0 < w1.heap.size by omega)).trans ((hbw.cell (p := ⟨_, _, none⟩) h6l).trans h6)
  clear hb1 hm L h6
  have hlt1 : w.heap.size < w1.heap.size := by omega
  have hlt2 : w.heap.size + 1 < w1.heap.size := by omega
  have hres : ∀ b : Bool, Lib.contains T [91, 104, 108, 93] = b → Hid (opcOf ⟨rz, ys, t, rb, rc, rt, rm⟩ y z = if b then ⟨T, A, y, rb, rc + rm, rt + rm⟩ else ⟨T, A, y, rb, rc, rt⟩) := by
    intro b hb
    show _ = _
    unfold opcOf
    simp only [HT.out, HAr.out]
    rw [show hlW = [91, 104, 108, 93] from rfl, hb]
  cases hC : Lib.contains T [91, 104, 108, 93]
  · have HR := hres _ hC
    have HC : Hid (Lib.contains T [91, 104, 108, 93] = false) := hC
    clear hres hC
    go_wp2_with fail
    refine (Tryd.strings_Contains ⟨T.toArray⟩ ⟨#[91, 104, 108, 93]⟩ n _ (by simp only [ByteArray.size, List.size_toArray]; omega) ((World.cell?_alloc_lt _ _ _ (show 8 < w1.heap.size from hml1)).trans E1.out)).mono ?_
    rintro e w2 ⟨rfl, rfl⟩
    rw [show Lib.contains (ByteArray.mk T.toArray).data.toList (ByteArray.mk #[91, 104, 108, 93]).data.toList = false from HC.out]
    go_wp2_with (refine wpList_store_rowTo rfl 31 _ _ rfl rfl (w.heap.size + 1) #[.string ⟨T.toArray⟩, .int .i64 A, .int .i64 y, .int .i64 rb, .int .i64 rc, .int .i64 rt] rfl rfl 31 _ (HH.out _) (by kernel_rfl) rfl (by simp [Value.oneCell']) ?_)
    refine bodyPost_ret (v := .agg #[.string ⟨T.toArray⟩, .int .i64 A, .int .i64 y, .int .i64 rb, .int .i64 rc, .int .i64 rt]) (results_row Tryd.results10 _ _ (w.heap.size + 1) 31 _ (0, 0) _ rfl (setRow_heap _ _ _ _ _ _ (HH.out _)) Tryd.underlying31 rfl (by kernel_rfl)) rfl ⟨?_, below_setRow (hbw.alloc (by omega) _) (by omega) _⟩
    rw [HR.out]
    rfl
  · have HR := hres _ hC
    have HC : Hid (Lib.contains T [91, 104, 108, 93] = true) := hC
    clear hres hC
    go_wp2_with fail
    refine (Tryd.strings_Contains ⟨T.toArray⟩ ⟨#[91, 104, 108, 93]⟩ n _ (by simp only [ByteArray.size, List.size_toArray]; omega) ((World.cell?_alloc_lt _ _ _ (show 8 < w1.heap.size from hml1)).trans E1.out)).mono ?_
    rintro e w2 ⟨rfl, rfl⟩
    rw [show Lib.contains (ByteArray.mk T.toArray).data.toList (ByteArray.mk #[91, 104, 108, 93]).data.toList = true from HC.out]
    go_wp2_with (refine wpList_store_rowTo rfl 31 _ _ rfl rfl (w.heap.size + 1) #[.string ⟨T.toArray⟩, .int .i64 A, .int .i64 y, .int .i64 rb, .int .i64 (rc + rm), .int .i64 (rt + rm)] rfl rfl 31 _ (HH.out _) (by kernel_rfl) rfl (by simp [Value.oneCell']) ?_)
    refine bodyPost_ret (v := .agg #[.string ⟨T.toArray⟩, .int .i64 A, .int .i64 y, .int .i64 rb, .int .i64 (rc + rm), .int .i64 (rt + rm)]) (results_row Tryd.results10 _ _ (w.heap.size + 1) 31 _ (0, 0) _ rfl (setRow_heap _ _ _ _ _ _ (HH.out _)) Tryd.underlying31 rfl (by kernel_rfl)) rfl ⟨?_, below_setRow (hbw.alloc (by omega) _) (by omega) _⟩
    rw [HR.out]
    rfl
end Go.Proofs.YtmboogkpbcjfoaaDoor
