/- Cart: what New makes of bytes is told by the bytes. -/
import Derived.Test.YtpiboooiofjigaaDoorCbU
namespace Go.Proofs.YtpiboooiofjigaaDoor
open Go.Shelf Go.RowKit
set_option linter.unusedVariables false
set_option linter.unusedSimpArgs false
variable {w w' W : World} {g N : Nat} {f : Nat → Int} {A A2 : Ad} {C D : Ct}
theorem row_uniq {k : Nat} {R S : Rw} {a b : Bool} (h : RowIs k R a) (h2 : RowIs k S b) : R = S ∧ a = b := by
  rcases h with ⟨rfl, h, hk⟩ | ⟨rfl, rfl, h⟩ <;> rcases h2 with ⟨rfl, h2, hk2⟩ | ⟨rfl, rfl, h2⟩
  · exact ⟨rows_uniq h h2 (hk.trans hk2.symm), rfl⟩
  · exact absurd hk (h2 _ h)
  · exact absurd hk2 (h _ h2)
  · exact ⟨rfl, rfl⟩
theorem mark_uniq {a b : Bool} (h : MarkIs f a) (h2 : MarkIs f b) : a = b := by
  rcases h with ⟨rfl, h⟩ | ⟨rfl, i, hi, h⟩ <;> rcases h2 with ⟨rfl, h2⟩ | ⟨rfl, j, hj, h2⟩
  · rfl
  · exact absurd (h j hj) h2
  · exact absurd (h2 i hi) h
  · rfl
/-- these bytes are taken, as this mapper with so much RAM -/
def NewIs (f : Nat → Int) (N kd rm : Nat) : Prop := (32768 ≤ N ∧ N ≤ 2097152) ∧ ∃ R b mk, RowIs (f 327).toNat R b ∧ MarkIs f mk ∧ faultI mk f R b N = 0 ∧ kd = R.mapper ∧ rm = ramN R (f 329).toNat
theorem NewIs.uniq {kd rm kd' rm' : Nat} (h : NewIs f N kd rm) (h2 : NewIs f N kd' rm') : kd = kd' ∧ rm = rm' := by
  obtain ⟨_, R, b, mk, r1, m1, f1, rfl, rfl⟩ := h
  obtain ⟨_, S, c, mk2, r2, m2, f2, rfl, rfl⟩ := h2
  obtain ⟨rfl, rfl⟩ := row_uniq r1 r2
  exact ⟨rfl, rfl⟩
theorem new_kept2 (hT : Tb W) (hB : By W g N f) (h8 : ∀ k, 0 ≤ f k ∧ f k ≤ 255) (hn : N ≤ 2097451) : Calls Tryd.prog 15 #[.slice (some ⟨g, 0, none⟩) N N, .slice none 0 0] W fun e w' => Up W w' ∧ ((∃ x : Int, x ≠ 0 ∧ e = .returned (.tuple #[.pointer none, .int .i64 x]) ∧ ∀ kd rm, ¬ NewIs f N kd rm) ∨ (∃ A C, e = .returned (.tuple #[.pointer (some ⟨A.cb, 0, none⟩), .int .i64 0]) ∧ Cz W.heap.size w'.heap.size A C w' ∧ C.n = N ∧ C.f = f ∧ C.n = C.bk * 16384 ∧ 1 ≤ C.bk ∧ NewIs f N C.m.kd C.rm)) := by
  by_cases hs : N < 32768 ∨ 2097152 < N
  · exact (new_short (Nat.le_refl _) (by omega) hs).mono fun e w' ⟨q1, q2⟩ => ⟨q2, Or.inl ⟨41, by decide, q1, fun kd rm h => by have := h.1; omega⟩⟩
  · refine (new_any hT hB (by omega) (by omega) (Nat.le_refl _) (by omega) h8).mono ?_
    rintro e w' ⟨R, b, mk, hr, hm, u, hcs⟩
    refine ⟨u, ?_⟩
    rcases hcs with ⟨h1, he⟩ | ⟨h1, m, A, ht, hc, a1, a2, a3, a4, he⟩
    · refine Or.inl ⟨_, h1, he, fun kd rm h => ?_⟩
      obtain ⟨_, S, c, mk2, r2, m2, f2, _, _⟩ := h
      obtain ⟨rfl, rfl⟩ := row_uniq hr r2
      obtain rfl := mark_uniq hm m2
      exact h1 f2
    · have hmp : R.mapper = 0 ∨ R.mapper = 1 ∨ R.mapper = 2 ∨ R.mapper = 3 ∨ R.mapper = 5 := by
        rcases hr with ⟨_, hr, _⟩ | ⟨_, hr, _⟩
        · exact rowsT_mp R hr
        · subst hr; decide
      have htk : takesB R (f 328).toNat N = true := by
        cases hq : takesB R (f 328).toNat N with
        | true => rfl
        | false =>
          unfold faultI at h1
          rw [hq] at h1
          repeat' split at h1
          all_goals first | (exact absurd h1 (by decide)) | (exact absurd rfl (by assumption))
      refine Or.inr ⟨A, _, he, Cz.of ⟨hc, u, a1, a2, a3, a4⟩ (fun k => ⟨Int.le_refl 0, Int.natCast_nonneg _⟩) (Mp.new_std hmp), rfl, rfl, (takes_len htk).symm, ?_, by omega, R, b, mk, hr, hm, h1, rfl, rfl⟩
      show 1 ≤ 2 * 2 ^ (f 328).toNat
      have := Nat.two_pow_pos (f 328).toNat
      omega
variable {lo hi lo2 hi2 lo3 hi3 tg RN KD : Nat} {S : Nat → Int} {A3 : Ad} {E : Ct}
theorem Kx.off (h : Kx W g N f lo hi lo2 hi2 tg RN KD A A2 C D S w) (q : FK (Off lo3 hi3) w w') (hl : tg < lo3) : Kx W g N f lo hi lo2 hi2 tg RN KD A A2 C D S w' := by
  have o1 := h.o1; have o2 := h.o2; have o3 := h.o3; have o4 := h.o4
  have l1 := h.x.l1; have l2 := h.y.l1
  exact ⟨h.x.keep q (fun k _ _ => Or.inl (by omega)), h.y.keep q (fun k _ _ => Or.inl (by omega)), h.rom.of_block (q.block g h.rom.lt (Or.inl (by omega))), h.was.of_block (q.block tg h.was.lt (Or.inl hl)), up_off h.up q (by omega), h.cn, o1, o2, o3, o4⟩
/-- Load into a third cartridge of the same bytes -/
theorem Kx.loads {tc : Nat} (h : Kx W g N f lo hi lo2 hi2 tg RN KD A A2 C D C.st w) (hz : Cz lo3 hi3 A3 E w) (en : E.n = N) (ef : E.f = f) (h1 : NewIs f N KD RN) (h2 : NewIs f N E.m.kd E.rm) (hl : tg < lo3) (t1 : 5 + RN ≤ tc) (t2 : tc ≤ maxLen) : Calls Tryd.prog 20 #[.pointer (some ⟨A3.cb, 0, none⟩), .slice (some ⟨tg, 0, none⟩) (5 + RN) tc] w fun e w' => e = .returned (.int .i64 0) ∧ ∃ E2, Cz lo3 hi3 A3 E2 w' ∧ Alike C E2 ∧ Kx W g N f lo hi lo2 hi2 tg RN KD A A2 C D C.st w' := by
  obtain ⟨c1, c2, c3, c4, c5, c6⟩ := h.cn
  obtain ⟨e1, e2⟩ := h1.uniq h2
  have hk : E.m.kd = C.m.kd := by rw [c4, e1]
  have hr : E.rm = C.rm := by rw [c3, e2]
  have st := h.was
  have t3 := t1
  rw [← c3] at st t3
  have hL := load_any (C := C) (D := E) (kd := 0) (RN := 0) (F := f) hz hk hr h.x.ok h.x.std st t3 t2 (Or.inl hl)
  rw [c3] at hL
  refine hL.mono ?_
  rintro e w' ⟨q1, q2, q3⟩
  refine ⟨q1, _, q2, ⟨by rw [c1]; exact en.symm, by rw [c2]; exact ef.symm, hr.symm, (Ct.loaded_m hk).symm, fun k hk => ?_⟩, h.off q3 hl⟩
  show _ = (if k < E.rm then C.st (5 + k) else 0)
  rw [if_pos (by rw [hr]; exact hk), Ct.st_ram]
/-- what a step leaves: written to, or as it was -/
def Stp (kk aa : Int) (xv : Nat) (C C2 : Ct) : Prop := (kk = 2 ∧ C2 = C.wr aa xv) ∨ (kk ≠ 2 ∧ C2 = C)
theorem Stp.cnt {kk aa : Int} {xv : Nat} {C2 : Ct} (h : Stp kk aa xv C C2) (m : Nat) : cntF C2.st C.st m ≤ 1 := by
  rcases h with ⟨_, rfl⟩ | ⟨_, rfl⟩
  · exact wr_cnt C aa xv m
  · rw [cntF_zero (fun k _ => rfl)]; exact Nat.zero_le _
theorem Stp.cnt2 {kk aa : Int} {xv : Nat} {C2 : Ct} (h : Stp kk aa xv C C2) (m : Nat) : 0 < cntF C2.st C.st m → kk = 2 ∧ 40960 ≤ aa ∧ aa < 49152 := by
  rcases h with ⟨h, rfl⟩ | ⟨_, rfl⟩
  · intro h0
    refine ⟨h, ?_⟩
    by_cases hr : 40960 ≤ aa ∧ aa < 49152
    · exact hr
    · rw [wr_cnt_out hr] at h0; cases h0
  · rw [cntF_zero (fun k _ => rfl)]
    intro h0
    cases h0
theorem Stp.none {kk aa : Int} {xv : Nat} {C2 : Ct} (h : Stp kk aa xv C C2) (hk : ¬ kk = 2) : C2 = C := by
  rcases h with ⟨h, _⟩ | ⟨_, h⟩
  · exact absurd h hk
  · exact h
theorem Stp.some {kk aa : Int} {xv : Nat} {C2 : Ct} (h : Stp kk aa xv C C2) (hk : kk = 2) : C2 = C.wr aa xv := by
  rcases h with ⟨_, h⟩ | ⟨h, _⟩
  · exact h
  · exact absurd hk h
end Go.Proofs.YtpiboooiofjigaaDoor
