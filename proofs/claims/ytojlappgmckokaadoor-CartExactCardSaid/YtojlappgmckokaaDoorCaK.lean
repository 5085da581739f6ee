/- Cart: mappers. -/
import Derived.Test.YtojlappgmckokaaDoorCaJ
namespace Go.Proofs.YtojlappgmckokaaDoor
open Go.Shelf Go.RowKit
set_option linter.unusedVariables false
set_option linter.unusedSimpArgs false
variable {w w' W : World} {g n b : Nat} {f : Nat → Int} {v : Value}
/-- a mapper: which it is, and its registers -/
structure Mp where
  kd : Nat
  on : Nat
  low : Nat
  high : Nat
  pick : Nat
  mode : Nat
def Mp.new (k : Nat) : Mp := ⟨k, 0, if k = 0 then 0 else 1, 0, 0, 0⟩
/-- the registers in memory -/
def Mp.cells (m : Mp) : List Value :=
  if m.kd = 1 then [.int .u8 (m.on : Int), .int .u8 (m.low : Int), .int .u8 (m.pick : Int), .int .u8 (m.mode : Int)]
  else if m.kd = 2 then [.int .u8 (m.on : Int), .int .u8 (m.low : Int)]
  else if m.kd = 3 then [.int .u8 (m.on : Int), .int .u8 (m.low : Int), .int .u8 (m.pick : Int)]
  else [.int .u8 (m.on : Int), .int .u8 (m.low : Int), .int .u8 (m.high : Int), .int .u8 (m.pick : Int)]
def Mp.bty (k : Nat) : TypeId := if k = 1 then 110 else if k = 2 then 113 else if k = 3 then 116 else 119
def Mp.pty (k : Nat) : TypeId := if k = 1 then 108 else if k = 2 then 111 else if k = 3 then 114 else 117
/-- a mapper behind the interface -/
def MpAt (w : World) (v : Value) (m : Mp) (b : Nat) : Prop :=
  (m.kd = 0 ∧ v = .iface 121 (.agg #[])) ∨
  ((m.kd = 1 ∨ m.kd = 2 ∨ m.kd = 3 ∨ m.kd = 5) ∧ v = .iface (Mp.pty m.kd) (.pointer (some ⟨b, 0, none⟩)) ∧ w.heap[b]? = some (.cells m.cells.toArray (Mp.bty m.kd) (0, 0)))
theorem MpAt.up {m : Mp} (h : MpAt w v m b) (u : Up w w') : MpAt w' v m b := by
  rcases h with h | ⟨h1, h2, h3⟩
  · exact Or.inl h
  · exact Or.inr ⟨h1, h2, (u.block b (heap_at h3)).trans h3⟩
theorem MpAt.fr {m : Mp} {c : Nat} (h : MpAt w v m b) (u : Fr c w w') (hc : b ≠ c) : MpAt w' v m b := by
  rcases h with h | ⟨h1, h2, h3⟩
  · exact Or.inl h
  · exact Or.inr ⟨h1, h2, (u.block b (heap_at h3) hc).trans h3⟩
set_option maxRecDepth 100000 in
theorem mapperOf_any {k : Nat} (hk : k = 0 ∨ k = 1 ∨ k = 2 ∨ k = 3 ∨ k = 5) : Calls Tryd.prog 37 #[.int .i64 (k : Int)] W fun e w' => ∃ v, e = .returned v ∧ MpAt w' v (Mp.new k) W.heap.size ∧ Up W w' ∧ v.oneCell' = true := by
  rcases hk with rfl | rfl | rfl | rfl | rfl
  · go_enter Tryd.func37, Tryd.ntmps37
    go_wp2_with fail
    go_ret
    exact ⟨_, by first | rfl | (simp; done), Or.inl ⟨rfl, rfl⟩, Up.refl W, rfl⟩
  all_goals
    go_enter Tryd.func37, Tryd.ntmps37
    go_wp2_with fail
    go_ret
    exact ⟨_, by first | rfl | (simp; done), Or.inr ⟨by decide, rfl, heap_alloc_new W _⟩, (Up.refl W).alloc _, rfl⟩
/-- the first bank, the second -/
def Mp.lower (m : Mp) : Nat := if m.kd = 1 then 32 * (if m.mode = 0 then 0 else m.pick) else 0
def Mp.upper (m : Mp) : Nat := if m.kd = 0 then 1 else if m.kd = 1 then m.low + 32 * m.pick else if m.kd = 5 then m.low + 256 * m.high else m.low
structure Mp.In (m : Mp) : Prop where
  kd : m.kd = 0 ∨ m.kd = 1 ∨ m.kd = 2 ∨ m.kd = 3 ∨ m.kd = 5
  on : m.on ≤ 1
  low : m.low ≤ 255
  high : m.high ≤ 1
  pick : m.pick ≤ 15
  mode : m.mode ≤ 1
theorem Mp.new_in {k : Nat} (hk : k = 0 ∨ k = 1 ∨ k = 2 ∨ k = 3 ∨ k = 5) : (Mp.new k).In := by
  rcases hk with rfl | rfl | rfl | rfl | rfl <;> exact ⟨by decide, by decide, by decide, by decide, by decide, by decide⟩
set_option maxRecDepth 100000 in
theorem romPlace_any {cb nc a k : Nat} {ra : Option Addr} (hr : W.cell? ⟨cb, 6, none⟩ = some (.slice ra n nc)) (hn : 1 ≤ n) (hn2 : n ≤ 2097152) (hnc : n ≤ nc) (hc : nc ≤ 9223372036854775807) (hk : k ≤ 1024) (ha : a ≤ 65536) : Calls Tryd.prog 40 #[.pointer (some ⟨cb, 0, none⟩), .int .i64 (k : Int), .int .i64 (a : Int)] W fun e w' => e = .returned (.int .i64 (((k * 16384 + a) % n : Nat) : Int)) ∧ w' = W := by
  go_enter Tryd.func40, Tryd.ntmps40
  go_wp2_with fail
  go_ret
  refine ⟨ret1 ?_, rfl⟩
  rw [Int.natCast_emod, Int.natCast_add, Int.natCast_mul]
  rfl
/-- a cartridge in memory: its block, its ROM's, its RAM's, its mapper's -/
structure Ad where
  cb : Nat
  rg : Nat
  nc : Nat
  rb : Nat
  rc : Nat
  mb : Nat
  v : Value
structure Ct where
  hd : ByteArray
  ty : Nat
  mpr : Nat
  bk : Nat
  rm : Nat
  bat : Bool
  n : Nat
  f : Nat → Int
  rf : Nat → Int
  m : Mp
structure CtAt (w : World) (A : Ad) (C : Ct) : Prop where
  blk : w.heap[A.cb]? = some (.cells #[.string C.hd, .int .i64 (C.ty : Int), .int .i64 (C.mpr : Int), .int .i64 (C.bk : Int), .int .i64 (C.rm : Int), .bool C.bat, .slice (some ⟨A.rg, 0, none⟩) C.n A.nc, .slice (some ⟨A.rb, 0, none⟩) C.rm A.rc, A.v] 81 (0, 0))
  rom : By w A.rg C.n C.f
  ram : By w A.rb C.rm C.rf
  mp : MpAt w A.v C.m A.mb
  inn : C.m.In
  n1 : 32768 ≤ C.n
  n2 : C.n ≤ 2097152
  nc : C.n ≤ A.nc ∧ A.nc ≤ 9223372036854775807
  rc : C.rm ≤ A.rc ∧ A.rc ≤ 9223372036854775807
  rm : C.rm ≤ 131072
  d1 : A.cb ≠ A.rg
  d2 : A.cb ≠ A.rb
  d3 : A.cb ≠ A.mb
  d4 : A.rg ≠ A.rb
  d5 : A.rg ≠ A.mb
  d6 : A.rb ≠ A.mb
theorem CtAt.up {A : Ad} {C : Ct} (h : CtAt w A C) (u : Up w w') : CtAt w' A C :=
  ⟨(u.block A.cb (heap_at h.blk)).trans h.blk, h.rom.up u, h.ram.up u, h.mp.up u, h.inn, h.n1, h.n2, h.nc, h.rc, h.rm, h.d1, h.d2, h.d3, h.d4, h.d5, h.d6⟩
end Go.Proofs.YtojlappgmckokaaDoor
