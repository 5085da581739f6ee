/- Cart: Read and Write of any address, plainly. -/
import Derived.Test.YtojlappgmckokaaDoorCbA
import Derived.Test.YtojlappgmckokaaDoorCaT
namespace Go.Proofs.YtojlappgmckokaaDoor
open Go.Shelf Go.RowKit
set_option linter.unusedVariables false
set_option linter.unusedSimpArgs false
variable {w w' W : World} {b : Nat} {A : Ad} {C : Ct}
/-- the bank of RAM, is it seen, the bits that are kept -/
def Mp.bank (m : Mp) : Nat := if m.kd = 1 then (if m.mode = 0 then 0 else m.pick) else if m.kd = 3 then m.pick else if m.kd = 5 then m.pick else 0
def Mp.seen (m : Mp) : Bool := if m.kd = 0 then true else if m.kd = 3 then ((m.on : Int) == 1) && decide ((m.pick : Int) < 4) else ((m.on : Int) == 1)
def Mp.kp (m : Mp) : Nat := if m.kd = 2 then 15 else 255
theorem Mp.kp_le (m : Mp) : m.kp ≤ 255 := by unfold Mp.kp; split <;> omega
theorem Mp.bank_le {m : Mp} (h : m.In) : m.bank ≤ 15 := by
  have := h.pick
  unfold Mp.bank
  repeat' split
  all_goals omega
theorem Mp.kp_set (m : Mp) (a x : Nat) : (m.set a x).kp = m.kp := by unfold Mp.kp; rw [Mp.set_kd]
def Ct.pl (C : Ct) (a : Nat) : Nat := (C.m.bank * 8192 + a) % C.rm
/-- the RAM's bytes are such as it keeps -/
def Ct.Ok (C : Ct) : Prop := ∀ k, 0 ≤ C.rf k ∧ C.rf k ≤ (C.m.kp : Int)
theorem and_255 : ∀ a : Int, 0 ≤ a → a ≤ 255 → bits .and .u8 a 255 = a := byteAll (by decide +kernel)
theorem and_15 : ∀ a : Int, 0 ≤ a → a ≤ 255 → bits .and .u8 a 15 = a % 16 := byteAll (by decide +kernel)
theorem or_0 : ∀ a : Int, 0 ≤ a → a ≤ 255 → bits .or .u8 a 0 = a := byteAll (by decide +kernel)
theorem or_240 : ∀ a : Int, 0 ≤ a → a ≤ 255 → bits .or .u8 a 240 = a % 16 + 240 := byteAll (by decide +kernel)
/-- what is kept of a byte, and what is read of it -/
def Mp.keeps (m : Mp) (x : Int) : Int := if m.kd = 2 then x % 16 else x
def Mp.shows (m : Mp) (x : Int) : Int := if m.kd = 2 then x % 16 + 240 else x
theorem Mp.and_kp {m : Mp} {x : Int} (h0 : 0 ≤ x) (h1 : x ≤ 255) : bits .and .u8 x (m.kp : Int) = m.keeps x := by
  unfold Mp.kp Mp.keeps
  split
  · exact and_15 x h0 h1
  · exact and_255 x h0 h1
theorem Mp.or_kp {m : Mp} {x : Int} (h0 : 0 ≤ x) (h1 : x ≤ 255) : bits .or .u8 x (255 - (m.kp : Int)) = m.shows x := by
  unfold Mp.kp Mp.shows
  split
  · exact or_240 x h0 h1
  · exact or_0 x h0 h1
theorem Mp.keeps_in {m : Mp} {x : Int} (h0 : 0 ≤ x) (h1 : x ≤ 255) : 0 ≤ m.keeps x ∧ m.keeps x ≤ (m.kp : Int) := by
  unfold Mp.kp Mp.keeps
  split
  · exact ⟨by omega, by omega⟩
  · exact ⟨h0, h1⟩
theorem Mp.shows_in {m : Mp} {x : Int} (h0 : 0 ≤ x) (h1 : x ≤ 255) : 0 ≤ m.shows x ∧ m.shows x ≤ 255 := by
  unfold Mp.shows
  split <;> exact ⟨by omega, by omega⟩
/-- where the RAM is -/
def Ct.here (C : Ct) (a : Int) : Prop := 40960 ≤ a ∧ a < 49152 ∧ 1 ≤ C.rm ∧ C.m.seen = true
instance (C : Ct) (a : Int) : Decidable (C.here a) := by unfold Ct.here; infer_instance
def Ct.at' (C : Ct) (a : Int) : Nat := C.pl (a - 40960).toNat
def Ct.rd (C : Ct) (a : Int) : Int := if a < 0 then 255 else if a < 16384 then C.f ((C.m.lower * 16384 + a.toNat) % C.n) else if a < 32768 then C.f ((C.m.upper * 16384 + (a.toNat - 16384)) % C.n) else if C.here a then C.m.shows (C.rf (C.at' a)) else 255
def Ct.put (C : Ct) (a : Int) (x : Nat) : Ct := { C with rf := putF C.rf (C.at' a) 1 (fun _ => C.m.keeps (x : Int)) }
def Ct.wr (C : Ct) (a : Int) (x : Nat) : Ct := if 0 ≤ a ∧ a < 32768 then C.set a.toNat x else if C.here a then C.put a x else C
theorem Ct.pl_lt {a : Nat} (h : 1 ≤ C.rm) : C.pl a < C.rm := Nat.mod_lt _ h
theorem Ct.Ok.set (h : C.Ok) (a x : Nat) : (C.set a x).Ok := fun k => by
  show 0 ≤ C.rf k ∧ C.rf k ≤ ((C.m.set a x).kp : Int)
  rw [Mp.kp_set]
  exact h k
theorem Ct.Ok.put {a : Int} {x : Nat} (h : C.Ok) (hx : x ≤ 255) : (C.put a x).Ok := fun k => by
  unfold Ct.put putF
  dsimp only
  split
  · exact Mp.keeps_in (by omega) (by omega)
  · exact h k
theorem Ct.Ok.wr {a : Int} {x : Nat} (h : C.Ok) (hx : x ≤ 255) : (C.wr a x).Ok := by
  unfold Ct.wr
  split
  · exact h.set _ _
  · split
    · exact h.put hx
    · exact h
theorem CtAt.ramPlace {a : Nat} (h : CtAt W A C) (hr : 1 ≤ C.rm) (ha : a < 8192) : Calls Tryd.prog 41 #[.pointer (some ⟨A.cb, 0, none⟩), .int .i64 ((40960 + a : Nat) : Int)] W fun e w' => e = .returned (.tuple #[.int .i64 ((C.pl a : Nat) : Int), .bool C.m.seen]) ∧ Up W w' := by
  obtain ⟨cb, rg, nc, rb, rc, mb, v⟩ := A
  obtain ⟨hd, ty, mpr, bk, rm, bat, n, f, rf, ⟨kd, on, low, high, pick, mode⟩⟩ := C
  obtain ⟨h1, h2, h3, h4, ⟨i0, i1, i2, i3, i4, i5⟩, n1, n2, ⟨n3, n4⟩, ⟨r3, r4⟩, r5, d1, d2, d3, d4, d5, d6⟩ := h
  have k7 : W.cell? ⟨cb, 7, none⟩ = some (.slice (some ⟨rb, 0, none⟩) rm rc) := heap_cell h1 rfl
  have k8 : W.cell? ⟨cb, 8, none⟩ = some v := heap_cell h1 rfl
  have i4 : pick ≤ 15 := i4
  have i5 : mode ≤ 1 := i5
  have hr : 1 ≤ rm := hr
  have r5 : rm ≤ 131072 := r5
  rcases h4 with ⟨hk, hv⟩ | ⟨hk, hv, hb⟩
  · have hk : kd = 0 := hk
    have hv : v = .iface 121 (.agg #[]) := hv
    subst hk hv
    exact ramPlace_0 (q := 0) k7 k8 hr r5 (by decide) ha (fun w u => ram_0)
  · have hb : W.heap[mb]? = some (.cells (Mp.cells ⟨kd, on, low, high, pick, mode⟩).toArray (Mp.bty kd) (0, 0)) := hb
    have hv : v = .iface (Mp.pty kd) (.pointer (some ⟨mb, 0, none⟩)) := hv
    have hk : kd = 1 ∨ kd = 2 ∨ kd = 3 ∨ kd = 5 := hk
    rcases hk with rfl | rfl | rfl | rfl
    · have hv : v = .iface 108 (.pointer (some ⟨mb, 0, none⟩)) := hv
      subst hv
      exact ramPlace_1 (q := if mode = 0 then 0 else pick) k7 k8 hr r5 (by split <;> omega) ha (fun w u => ram_1 (cell_up u (heap_cell hb rfl)) (cell_up u (heap_cell hb rfl)) (cell_up u (heap_cell hb rfl)) i4 i5)
    · have hv : v = .iface 111 (.pointer (some ⟨mb, 0, none⟩)) := hv
      subst hv
      exact ramPlace_2 (q := 0) k7 k8 hr r5 (by decide) ha (fun w u => ram_2 (cell_up u (heap_cell hb rfl)))
    · have hv : v = .iface 114 (.pointer (some ⟨mb, 0, none⟩)) := hv
      subst hv
      exact ramPlace_3 (q := pick) k7 k8 hr r5 i4 ha (fun w u => ram_3 (cell_up u (heap_cell hb rfl)) (cell_up u (heap_cell hb rfl)) i4)
    · have hv : v = .iface 117 (.pointer (some ⟨mb, 0, none⟩)) := hv
      subst hv
      exact ramPlace_5 (q := pick) k7 k8 hr r5 i4 ha (fun w u => ram_5 (cell_up u (heap_cell hb rfl)) (cell_up u (heap_cell hb rfl)) i4)
theorem CtAt.readRam {a : Nat} (h : CtAt W A C) (hr : 1 ≤ C.rm) (ha : a < 8192) (hs : C.m.seen = true) (hO : C.Ok) : Calls Tryd.prog 17 #[.pointer (some ⟨A.cb, 0, none⟩), .int .i64 ((40960 + a : Nat) : Int)] W fun e w' => e = .returned (.int .u8 (C.m.shows (C.rf (C.pl a)))) ∧ Up W w' := by
  have hp : ∀ w, Up W w → Calls Tryd.prog 41 #[.pointer (some ⟨A.cb, 0, none⟩), .int .i64 ((40960 + a : Nat) : Int)] w fun e w' => e = .returned (.tuple #[.int .i64 ((C.pl a : Nat) : Int), .bool true]) ∧ Up w w' := fun w u => by rw [← hs]; exact (h.up u).ramPlace hr ha
  have hl : C.pl a < C.rm := Ct.pl_lt hr
  have k7 : W.cell? ⟨A.cb, 7, none⟩ = some (.slice (some ⟨A.rb, 0, none⟩) C.rm A.rc) := heap_cell h.blk rfl
  have k8 : W.cell? ⟨A.cb, 8, none⟩ = some A.v := heap_cell h.blk rfl
  have hk255 := C.m.kp_le
  obtain ⟨x, hx, x8⟩ : ∃ x : Nat, C.rf (C.pl a) = (x : Int) ∧ x ≤ 255 := by
    obtain ⟨c, hc⟩ := Int.eq_ofNat_of_zero_le (hO (C.pl a)).1
    exact ⟨c, hc, by have := (hO (C.pl a)).2; omega⟩
  have kx := h.ram.cell (C.pl a) hl
  rw [hx] at kx ⊢
  rw [← Mp.or_kp (m := C.m) (x := (x : Int)) (by omega) (by omega)]
  rcases h.mp with ⟨hk, hv⟩ | ⟨hk, hv, hb⟩
  · rw [hv] at k8
    have e9 : C.m.kp = 255 := by unfold Mp.kp; rw [hk]; rfl
    rw [e9]
    exact readRam_0 (kp := 255) (by omega) (by omega) k7 k8 kx hl x8 (by decide) hp (fun w u => kept_0)
  · rcases hk with hk | hk | hk | hk
    · have e9 : C.m.kp = 255 := by unfold Mp.kp; rw [hk]; rfl
      rw [hv, hk] at k8
      rw [e9]
      exact readRam_1 (kp := 255) (by omega) (by omega) k7 k8 kx hl x8 (by decide) hp (fun w u => kept_1.mono fun e w' ⟨a1, a2⟩ => ⟨a1, by rw [a2]; exact Up.refl w⟩)
    · have e9 : C.m.kp = 15 := by unfold Mp.kp; rw [hk]; rfl
      rw [hv, hk] at k8
      rw [e9]
      exact readRam_2 (kp := 15) (by omega) (by omega) k7 k8 kx hl x8 (by decide) hp (fun w u => kept_2.mono fun e w' ⟨a1, a2⟩ => ⟨a1, by rw [a2]; exact Up.refl w⟩)
    · have e9 : C.m.kp = 255 := by unfold Mp.kp; rw [hk]; rfl
      rw [hv, hk] at k8
      rw [e9]
      exact readRam_3 (kp := 255) (by omega) (by omega) k7 k8 kx hl x8 (by decide) hp (fun w u => kept_3.mono fun e w' ⟨a1, a2⟩ => ⟨a1, by rw [a2]; exact Up.refl w⟩)
    · have e9 : C.m.kp = 255 := by unfold Mp.kp; rw [hk]; rfl
      rw [hv, hk] at k8
      rw [e9]
      exact readRam_5 (kp := 255) (by omega) (by omega) k7 k8 kx hl x8 (by decide) hp (fun w u => kept_5.mono fun e w' ⟨a1, a2⟩ => ⟨a1, by rw [a2]; exact Up.refl w⟩)
theorem CtAt.writeRam {a x : Nat} (h : CtAt W A C) (hr : 1 ≤ C.rm) (ha : a < 8192) (hs : C.m.seen = true) (hx : x ≤ 255) : Calls Tryd.prog 18 #[.pointer (some ⟨A.cb, 0, none⟩), .int .i64 ((40960 + a : Nat) : Int), .int .u8 (x : Int)] W fun e w' => e = .returned (.tuple #[]) ∧ CtAt w' A (C.put ((40960 + a : Nat) : Int) x) ∧ Fr A.rb W w' := by
  have hp : ∀ w, Up W w → Calls Tryd.prog 41 #[.pointer (some ⟨A.cb, 0, none⟩), .int .i64 ((40960 + a : Nat) : Int)] w fun e w' => e = .returned (.tuple #[.int .i64 ((C.pl a : Nat) : Int), .bool true]) ∧ Up w w' := fun w u => by rw [← hs]; exact (h.up u).ramPlace hr ha
  have hl : C.pl a < C.rm := Ct.pl_lt hr
  have k7 : W.cell? ⟨A.cb, 7, none⟩ = some (.slice (some ⟨A.rb, 0, none⟩) C.rm A.rc) := heap_cell h.blk rfl
  have k8 : W.cell? ⟨A.cb, 8, none⟩ = some A.v := heap_cell h.blk rfl
  have hk255 := C.m.kp_le
  have fin : ∀ (e : Ending) (w' : World), (e = .returned (.tuple #[]) ∧ By w' A.rb C.rm (putF C.rf (C.pl a) 1 (fun _ => bits .and .u8 (x : Int) (C.m.kp : Int))) ∧ Fr A.rb W w') → (e = .returned (.tuple #[]) ∧ CtAt w' A (C.put ((40960 + a : Nat) : Int) x) ∧ Fr A.rb W w') := by
    rintro e w' ⟨q1, q2, q3⟩
    refine ⟨q1, ⟨(q3.block A.cb (heap_at h.blk) h.d2).trans h.blk, h.rom.of_block (q3.block A.rg h.rom.lt h.d4), ?_, h.mp.fr q3 (Ne.symm h.d6), h.inn, h.n1, h.n2, h.nc, h.rc, h.rm, h.d1, h.d2, h.d3, h.d4, h.d5, h.d6⟩, q3⟩
    rw [Mp.and_kp (by omega) (by omega)] at q2
    unfold Ct.put Ct.at'
    dsimp only
    rw [show (((40960 + a : Nat) : Int) - 40960).toNat = a by omega]
    exact q2
  rcases h.mp with ⟨hk, hv⟩ | ⟨hk, hv, hb⟩
  · rw [hv] at k8
    have e9 : C.m.kp = 255 := by unfold Mp.kp; rw [hk]; rfl
    exact (writeRam_0 (kp := 255) (by omega) (by omega) k7 k8 h.ram hl h.d2 hx (by decide) hp (fun w u => kept_0)).mono (by rw [e9] at fin; exact fin)
  · rcases hk with hk | hk | hk | hk
    · have e9 : C.m.kp = 255 := by unfold Mp.kp; rw [hk]; rfl
      rw [hv, hk] at k8
      exact (writeRam_1 (kp := 255) (by omega) (by omega) k7 k8 h.ram hl h.d2 hx (by decide) hp (fun w u => kept_1.mono fun e w' ⟨a1, a2⟩ => ⟨a1, by rw [a2]; exact Up.refl w⟩)).mono (by rw [e9] at fin; exact fin)
    · have e9 : C.m.kp = 15 := by unfold Mp.kp; rw [hk]; rfl
      rw [hv, hk] at k8
      exact (writeRam_2 (kp := 15) (by omega) (by omega) k7 k8 h.ram hl h.d2 hx (by decide) hp (fun w u => kept_2.mono fun e w' ⟨a1, a2⟩ => ⟨a1, by rw [a2]; exact Up.refl w⟩)).mono (by rw [e9] at fin; exact fin)
    · have e9 : C.m.kp = 255 := by unfold Mp.kp; rw [hk]; rfl
      rw [hv, hk] at k8
      exact (writeRam_3 (kp := 255) (by omega) (by omega) k7 k8 h.ram hl h.d2 hx (by decide) hp (fun w u => kept_3.mono fun e w' ⟨a1, a2⟩ => ⟨a1, by rw [a2]; exact Up.refl w⟩)).mono (by rw [e9] at fin; exact fin)
    · have e9 : C.m.kp = 255 := by unfold Mp.kp; rw [hk]; rfl
      rw [hv, hk] at k8
      exact (writeRam_5 (kp := 255) (by omega) (by omega) k7 k8 h.ram hl h.d2 hx (by decide) hp (fun w u => kept_5.mono fun e w' ⟨a1, a2⟩ => ⟨a1, by rw [a2]; exact Up.refl w⟩)).mono (by rw [e9] at fin; exact fin)
/-- a cartridge made behind W, its RAM's bytes as they may be -/
structure Cx (W : World) (A : Ad) (C : Ct) (w : World) : Prop where
  bn : Bn W A C w
  ok : C.Ok
theorem Cx.more (h : Cx W A C w) (u : Up w w') : Cx W A C w' := ⟨h.bn.more u, h.ok⟩
theorem Cx.up (h : Cx W A C w) : Up W w := h.bn.up
theorem CtAt.ramOut {a : Int} (h : CtAt W A C) (ha : ¬ C.here a) : ∃ pl : Int, ∀ w, Up W w → Calls Tryd.prog 41 #[.pointer (some ⟨A.cb, 0, none⟩), .int .i64 a] w fun e w' => e = .returned (.tuple #[.int .i64 pl, .bool false]) ∧ Up w w' := by
  by_cases h1 : a < 40960 ∨ 49152 ≤ a ∨ C.rm = 0
  · exact ⟨0, fun w u => (ramPlace_out (heap_cell (h.up u).blk rfl) h1).mono fun e w' ⟨a1, a2⟩ => ⟨a1, by rw [a2]; exact Up.refl w⟩⟩
  · have hs : C.m.seen = false := by
      cases hh : C.m.seen with
      | false => rfl
      | true => exact absurd ⟨by omega, by omega, by omega, hh⟩ ha
    obtain ⟨a', ha'⟩ := Int.eq_ofNat_of_zero_le (show 0 ≤ a - 40960 by omega)
    refine ⟨((C.pl a' : Nat) : Int), fun w u => ?_⟩
    have := (h.up u).ramPlace (a := a') (by omega) (by omega)
    rw [hs] at this
    rw [show a = ((40960 + a' : Nat) : Int) by omega]
    exact this
theorem Cx.read {a : Int} (h : Cx W A C w) : Calls Tryd.prog 17 #[.pointer (some ⟨A.cb, 0, none⟩), .int .i64 a] w fun e w' => e = .returned (.int .u8 (C.rd a)) ∧ Up w w' := by
  unfold Ct.rd
  by_cases h0 : a < 0
  · rw [if_pos h0]
    exact read_neg h0
  · rw [if_neg h0]
    by_cases h1 : a < 16384
    · rw [if_pos h1]
      obtain ⟨n, rfl⟩ := Int.eq_ofNat_of_zero_le (show 0 ≤ a by omega)
      rw [Int.toNat_natCast]
      exact h.bn.ct.readLow (by omega)
    · rw [if_neg h1]
      by_cases h2 : a < 32768
      · rw [if_pos h2]
        obtain ⟨n, hn⟩ := Int.eq_ofNat_of_zero_le (show 0 ≤ a - 16384 by omega)
        rw [show a = ((n + 16384 : Nat) : Int) by omega, Int.toNat_natCast, Nat.add_sub_cancel]
        exact h.bn.ct.readHigh (by omega)
      · rw [if_neg h2]
        by_cases h3 : C.here a
        · rw [if_pos h3]
          unfold Ct.at'
          obtain ⟨n, hn⟩ := Int.eq_ofNat_of_zero_le (show 0 ≤ a - 40960 by have := h3.1; omega)
          rw [hn, Int.toNat_natCast, show a = ((40960 + n : Nat) : Int) by omega]
          exact h.bn.ct.readRam h3.2.2.1 (by have := h3.2.1; omega) h3.2.2.2 h.ok
        · rw [if_neg h3]
          obtain ⟨pl, hp⟩ := h.bn.ct.ramOut h3
          exact read_none (by omega) hp
theorem Cx.write {a : Int} {x : Nat} (h : Cx W A C w) (hx : x ≤ 255) : Calls Tryd.prog 18 #[.pointer (some ⟨A.cb, 0, none⟩), .int .i64 a, .int .u8 (x : Int)] w fun e w' => e = .returned (.tuple #[]) ∧ Cx W A (C.wr a x) w' := by
  have ok := h.ok.wr (a := a) hx
  revert ok
  unfold Ct.wr
  by_cases h0 : 0 ≤ a ∧ a < 32768
  · rw [if_pos h0]
    intro ok
    obtain ⟨n, rfl⟩ := Int.eq_ofNat_of_zero_le h0.1
    rw [Int.toNat_natCast] at ok ⊢
    exact (h.bn.write (by omega) hx).mono fun e w' ⟨q1, q2⟩ => ⟨q1, q2, ok⟩
  · rw [if_neg h0]
    by_cases h3 : C.here a
    · rw [if_pos h3]
      intro ok
      obtain ⟨n, hn⟩ := Int.eq_ofNat_of_zero_le (show 0 ≤ a - 40960 by have := h3.1; omega)
      obtain rfl : a = ((40960 + n : Nat) : Int) := by omega
      refine (h.bn.ct.writeRam h3.2.2.1 (by have := h3.2.1; omega) h3.2.2.2 hx).mono fun e w' ⟨q1, q2, q3⟩ => ⟨q1, ⟨q2, Fr.up h.bn.up h.bn.l3 q3, h.bn.l1, h.bn.l2, h.bn.l3, h.bn.l4⟩, ok⟩
    · rw [if_neg h3]
      intro ok
      obtain ⟨pl, hp⟩ := h.bn.ct.ramOut h3
      exact (write_none (by omega) hp).mono fun e w' ⟨q1, q2⟩ => ⟨q1, h.bn.more q2, ok⟩
end Go.Proofs.YtojlappgmckokaaDoor
