/- Cart: CartKept: what New answers of any bytes; two cartridges and a list that was told. -/
import Derived.Test.YtpiboooiofjigaaDoorCbT
namespace Go.Proofs.YtpiboooiofjigaaDoor
open Go.Shelf Go.RowKit
set_option linter.unusedVariables false
set_option linter.unusedSimpArgs false
variable {w w' W : World} {g N : Nat} {f : Nat → Int} {A A2 : Ad} {C D : Ct}
theorem takes_len {R : Rw} {rc n : Nat} (h : takesB R rc n = true) : 2 * 2 ^ rc * 16384 = n := by
  unfold takesB at h
  simp at h
  exact h.2
/-- New without a save, of any bytes -/
theorem new_kept (hT : Tb W) (hB : By W g N f) (h8 : ∀ k, 0 ≤ f k ∧ f k ≤ 255) (hn : N ≤ 2097451) : Calls Tryd.prog 15 #[.slice (some ⟨g, 0, none⟩) N N, .slice none 0 0] W fun e w' => Up W w' ∧ ((∃ x : Int, x ≠ 0 ∧ e = .returned (.tuple #[.pointer none, .int .i64 x])) ∨ (∃ A C, e = .returned (.tuple #[.pointer (some ⟨A.cb, 0, none⟩), .int .i64 0]) ∧ Cz W.heap.size w'.heap.size A C w' ∧ C.n = N ∧ C.f = f ∧ C.n = C.bk * 16384 ∧ 1 ≤ C.bk)) := by
  by_cases hs : N < 32768 ∨ 2097152 < N
  · exact (new_short (Nat.le_refl _) (by omega) hs).mono fun e w' ⟨q1, q2⟩ => ⟨q2, Or.inl ⟨41, by decide, q1⟩⟩
  · refine (new_any hT hB (by omega) (by omega) (Nat.le_refl _) (by omega) h8).mono ?_
    rintro e w' ⟨R, b, mk, hr, hm, u, hcs⟩
    refine ⟨u, ?_⟩
    rcases hcs with ⟨h1, he⟩ | ⟨h1, m, A, ht, hc, a1, a2, a3, a4, he⟩
    · exact Or.inl ⟨_, h1, he⟩
    · have hmp : R.mapper = 0 ∨ R.mapper = 1 ∨ R.mapper = 2 ∨ R.mapper = 3 ∨ R.mapper = 5 := by
        rcases hr with ⟨_, hr, _⟩ | ⟨_, hr, _⟩
        · exact rowsT_mp R hr
        · subst hr; decide
      have htk : takesB R (f 328).toNat N = true := by
        cases hq : takesB R (f 328).toNat N with
        | true => rfl
        | false =>
          unfold faultI at h1
          rw [hq] at h1
          repeat' split at h1
          all_goals first | (exact absurd h1 (by decide)) | (exact absurd rfl (by assumption))
      refine Or.inr ⟨A, _, he, Cz.of ⟨hc, u, a1, a2, a3, a4⟩ (fun k => ⟨Int.le_refl 0, Int.natCast_nonneg _⟩) (Mp.new_std hmp), rfl, rfl, (takes_len htk).symm, ?_⟩
      show 1 ≤ 2 * 2 ^ (f 328).toNat
      have := Nat.two_pow_pos (f 328).toNat
      omega
/-- Load of a state that was told, with RAM or without -/
theorem load_any {lo hi tg sc kd RN : Nat} {F : Nat → Int} (hc : Cz lo hi A D w) (hk : D.m.kd = C.m.kd) (hr : D.rm = C.rm) (ok : C.Ok) (std : C.m.Std) (st : By w tg (5 + C.rm) C.st) (h1 : 5 + C.rm ≤ sc) (h2 : sc ≤ maxLen) (d : Off lo hi tg) : Calls Tryd.prog 20 #[.pointer (some ⟨A.cb, 0, none⟩), .slice (some ⟨tg, 0, none⟩) (5 + C.rm) sc] w fun e w' => e = .returned (.int .i64 0) ∧ Cz lo hi A (D.loaded C.st) w' ∧ FK (Off lo hi) w w' := by
  have hkp : D.m.kp = C.m.kp := by unfold Mp.kp; rw [hk]
  have hb := st.byts h1 h2 (fun k => Ct.st_u8 ok std k)
  have hreg := Ct.st_reg (D := D) std hk
  have hfit : ∀ k, k < D.rm → C.st (5 + k) ≤ (D.m.kp : Int) := fun k hk => by
    rw [Ct.st_ram, hkp]
    exact (ok k).2
  have fin : ∀ (e : Ending) (w' : World), (e = .returned (.int .i64 0) ∧ CtAt w' A (D.loaded C.st) ∧ FK (A.K D.m.kd) w w') → (e = .returned (.int .i64 0) ∧ Cz lo hi A (D.loaded C.st) w' ∧ FK (Off lo hi) w w') := by
    rintro e w' ⟨q1, q2, q3⟩
    refine ⟨q1, ⟨q2, ?_, Mp.std_of_f hc.std.kd hreg, hc.l1, hc.l2, hc.l3, hc.l4⟩, q3.mono (fun k _ hk => hc.offK hk)⟩
    intro k
    show 0 ≤ (if k < D.rm then C.st (5 + k) else 0) ∧ (if k < D.rm then C.st (5 + k) else 0) ≤ (D.m.kp : Int)
    split
    · rename_i hk
      exact ⟨(hb.u8 _).1, hfit k hk⟩
    · exact ⟨Int.le_refl 0, Int.natCast_nonneg _⟩
  by_cases h0 : C.rm = 0
  · by_cases h5 : sc = 5
    · exact (hc.ct.loadNil5 hb (by rw [hr]) (by rw [hr]; exact h0) h5 hfit hreg hc.std.kd (hc.offK d)).mono fin
    · exact (hc.ct.loadNilM hb (by rw [hr]) (by rw [hr]; exact h0) (by omega) hfit hreg hc.std.kd (hc.offK d)).mono fin
  · exact (hc.ct.loadOk hb (by rw [hr]) (by rw [hr]; omega) hfit hreg hc.std.kd (hc.offK d)).mono fin
/-- steps as they come in: rows of four numbers -/
structure Ops4 (W : World) (oa : Option Addr) (ob oo on oc : Nat) (q : Nat → Nat → Int) : Prop where
  lc : on ≤ oc
  cm : oc ≤ maxLen
  ad : 0 < on → oa = some ⟨ob, oo, none⟩
  i64 : ∀ k j, I64 (q k j)
  cell : ∀ k, k < on → ∀ j, j < 4 → W.cell? ⟨ob, oo + k * 4 + j, none⟩ = some (.int .i64 (q k j))
theorem Ops4.up {oa : Option Addr} {ob oo on oc : Nat} {q : Nat → Nat → Int} (h : Ops4 W oa ob oo on oc q) (u : Up W w) : Ops4 w oa ob oo on oc q :=
  ⟨h.lc, h.cm, h.ad, h.i64, fun k hk j hj => cell_up u (h.cell k hk j hj)⟩
/-- the cartridge x beside y, the ROM's bytes, and what was told last -/
structure Kx (W : World) (g N : Nat) (f : Nat → Int) (lo hi lo2 hi2 tg RN KD : Nat) (A A2 : Ad) (C D : Ct) (S : Nat → Int) (w : World) : Prop where
  x : Cz lo hi A C w
  y : Cz lo2 hi2 A2 D w
  rom : By w g N f
  was : By w tg (5 + RN) S
  up : Up W w
  cn : C.n = N ∧ C.f = f ∧ C.rm = RN ∧ C.m.kd = KD ∧ C.n = C.bk * 16384 ∧ 1 ≤ C.bk
  o1 : W.heap.size ≤ lo
  o2 : g < lo
  o3 : hi ≤ lo2
  o4 : hi2 ≤ tg
variable {lo hi lo2 hi2 tg RN KD : Nat} {S : Nat → Int}
theorem Kx.more (h : Kx W g N f lo hi lo2 hi2 tg RN KD A A2 C D S w) (u : Up w w') : Kx W g N f lo hi lo2 hi2 tg RN KD A A2 C D S w' :=
  ⟨h.x.up u, h.y.up u, h.rom.up u, h.was.up u, h.up.trans u, h.cn, h.o1, h.o2, h.o3, h.o4⟩
theorem wr_keep (C : Ct) (a : Int) (x : Nat) : (C.wr a x).n = C.n ∧ (C.wr a x).f = C.f ∧ (C.wr a x).rm = C.rm ∧ (C.wr a x).bk = C.bk := by
  unfold Ct.wr
  split
  · exact ⟨rfl, rfl, rfl, rfl⟩
  · split <;> exact ⟨rfl, rfl, rfl, rfl⟩
theorem Kx.write {a : Int} {v : Nat} (h : Kx W g N f lo hi lo2 hi2 tg RN KD A A2 C D S w) (hv : v ≤ 255) : Calls Tryd.prog 18 #[.pointer (some ⟨A.cb, 0, none⟩), .int .i64 a, .int .u8 (v : Int)] w fun e w' => e = .returned (.tuple #[]) ∧ Kx W g N f lo hi lo2 hi2 tg RN KD A A2 (C.wr a v) D S w' := by
  have o1 := h.o1; have o2 := h.o2; have o3 := h.o3; have o4 := h.o4
  have l2 := h.y.l1
  refine (h.x.write hv).mono fun e w' ⟨q1, q2, q3⟩ => ⟨q1, q2, h.y.keep q3 (fun k hk _ => Or.inr (by omega)), h.rom.of_block (q3.block g h.rom.lt (Or.inl o2)), h.was.of_block (q3.block tg h.was.lt (Or.inr (by omega))), up_off h.up q3 o1, ?_, o1, o2, o3, o4⟩
  obtain ⟨k1, k2, k3, k4⟩ := wr_keep C a v
  obtain ⟨c1, c2, c3, c4, c5, c6⟩ := h.cn
  exact ⟨k1.trans c1, k2.trans c2, k3.trans c3, (Ct.wr_kd C a v).trans c4, by rw [k1, k4]; exact c5, by rw [k4]; exact c6⟩
/-- a new list is told: it takes the elder one's place -/
theorem Kx.told {tg' : Nat} {S' : Nat → Int} (h : Kx W g N f lo hi lo2 hi2 tg RN KD A A2 C D S w) (hb : By w tg' (5 + RN) S') (ho : hi2 ≤ tg') : Kx W g N f lo hi lo2 hi2 tg' RN KD A A2 C D S' w :=
  ⟨h.x, h.y, h.rom, hb, h.up, h.cn, h.o1, h.o2, h.o3, ho⟩
end Go.Proofs.YtpiboooiofjigaaDoor
