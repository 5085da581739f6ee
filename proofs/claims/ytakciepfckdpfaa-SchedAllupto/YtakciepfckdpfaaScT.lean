/- Sched: the document's own answer as it lies in memory; find, turns, without, Round. -/
import Derived.Test.YtakciepfckdpfaaScO
namespace Go.Proofs.Ytakciepfckdpfaa
open Go.RowKit
set_option linter.unusedVariables false
set_option linter.unusedSimpArgs false
variable {w w' W : World} {K K' : Nat → Prop} {yb : Nat} {lv lv' sv sv' : Value} {S S' : Sd}
/-- a slot as the document's answer has it -/
def slI (t : Mem) : Int := if t.rd then t.id else -1
/-- no number is below 0 -/
structure Gd (S : Sd) : Prop where
  rnd : ∀ m ∈ S.rnd, 0 ≤ m.id
  slo : ∀ t ∈ S.slo, t.rd = true → 0 ≤ t.id
structure RfR (K : Nat → Prop) (w : World) (yb : Nat) (lv sv : Value) (S : Sd) : Prop where
  kn : ∀ b, K b → b ≠ yb ∧ lv.ownBlock ≠ some b ∧ sv.ownBlock ≠ some b
  kb : ∀ b, K b → b < w.heap.size
  blk : w.heap[yb]? = some (.cells #[lv, sv] 82 (0, 0))
  row : w.ownsRow 0 85 2 lv S.rnd.length (memCells S.rnd)
  slo : w.ownsRow 0 3 1 sv S.slo.length (nums (S.slo.map slI))
  a1 : lv.ownBlock ≠ some yb
  a2 : sv.ownBlock ≠ some yb
  a3 : ∀ g, lv.ownBlock = some g → sv.ownBlock ≠ some g
  len : S.rnd.length ≤ 64
  gd : Gd S
def RfAt (K : Nat → Prop) (w : World) (yb : Nat) (S : Sd) : Prop := ∃ lv sv, RfR K w yb lv sv S
theorem RfR.chg (h : RfR K w yb lv sv S) (os : w'.os = w.os) (out : w'.output = w.output) (size : w.heap.size ≤ w'.heap.size)
    (hB : ∀ b, b < w.heap.size → b ≠ yb → lv.ownBlock ≠ some b → sv.ownBlock ≠ some b → w'.heap[b]? = w.heap[b]?) (hv : ∀ b, lv'.ownBlock = some b → lv.ownBlock = some b ∨ w.heap.size ≤ b)
    (blk : w'.heap[yb]? = some (.cells #[lv', sv] 82 (0, 0)))
    (row : w'.ownsRow 0 85 2 lv' S'.rnd.length (memCells S'.rnd)) (slo : w'.ownsRow 0 3 1 sv S'.slo.length (nums (S'.slo.map slI))) (len : S'.rnd.length ≤ 64) (gd : Gd S') : RfR K w' yb lv' sv S' ∧ FK K w w' := by
  have l1 := heap_at h.blk
  refine ⟨⟨fun b hb => ⟨(h.kn b hb).1, fun e => ?_, (h.kn b hb).2.2⟩, fun b hb => Nat.lt_of_lt_of_le (h.kb b hb) size, blk, row, slo, fun e => ?_, h.a2, fun g e e2 => ?_, len, gd⟩, ⟨os, out, size, fun b hb hk => hB b hb (h.kn b hk).1 (h.kn b hk).2.1 (h.kn b hk).2.2⟩⟩
  · have := h.kb b hb
    rcases hv b e with e | e
    · exact (h.kn b hb).2.1 e
    · omega
  · rcases hv yb e with e | e
    · exact h.a1 e
    · omega
  · rcases hv g e with e | e
    · exact h.a3 g e e2
    · have := own_lt h.slo e2
      omega
theorem RfR.keep (h : RfR K w yb lv sv S) (hk : ∀ b, K' b → b ≠ yb ∧ lv.ownBlock ≠ some b ∧ sv.ownBlock ≠ some b) (hkb : ∀ b, K' b → b < w'.heap.size) (e1 : w'.heap[yb]? = w.heap[yb]?) (e2 : ∀ b, lv.ownBlock = some b → w'.heap[b]? = w.heap[b]?) (e3 : ∀ b, sv.ownBlock = some b → w'.heap[b]? = w.heap[b]?) : RfR K' w' yb lv sv S :=
  ⟨hk, hkb, e1.trans h.blk, ownsRow_block h.row e2, ownsRow_block h.slo e3, h.a1, h.a2, h.a3, h.len, h.gd⟩
theorem RfR.up (h : RfR K w yb lv sv S) (u : Up w w') : RfR K w' yb lv sv S :=
  h.keep h.kn (fun b hb => Nat.lt_of_lt_of_le (h.kb b hb) u.size) (u.block _ (heap_at h.blk)) (fun b e => u.block b (own_lt h.row e)) (fun b e => u.block b (own_lt h.slo e))
theorem RfR.upK (h : RfR K w yb lv sv S) (u : Up w w') (hk : ∀ b, K' b → K b ∨ (w.heap.size ≤ b ∧ b < w'.heap.size)) : RfR K' w' yb lv sv S := by
  have l1 := heap_at h.blk
  refine h.keep (fun b hb => ?_) (fun b hb => ?_) (u.block _ l1) (fun b e => u.block b (own_lt h.row e)) (fun b e => u.block b (own_lt h.slo e))
  · rcases hk b hb with h1 | h1
    · exact h.kn b h1
    · exact ⟨by omega, fun e => by have := own_lt h.row e; omega, fun e => by have := own_lt h.slo e; omega⟩
  · rcases hk b hb with h1 | h1
    · exact Nat.lt_of_lt_of_le (h.kb b h1) u.size
    · exact h1.2
theorem RfR.refl_up (h : RfR K w yb lv sv S) (u : Up w w') : RfAt K w' yb S ∧ FK K w w' := ⟨⟨_, _, h.up u⟩, FK.ofUp u⟩
theorem RfR.k0 (h : RfR K w yb lv sv S) : w.cell? ⟨yb, 0, none⟩ = some lv := heap_cell h.blk rfl
theorem RfR.k1 (h : RfR K w yb lv sv S) : w.cell? ⟨yb, 1, none⟩ = some sv := heap_cell h.blk rfl
theorem RfR.fz (h : RfR K w yb lv sv S) (k : Nat) : w.frozen? ⟨yb, k, none⟩ = false := heap_fz h.blk
set_option maxRecDepth 100000 in
set_option maxHeartbeats 1000000 in
theorem find_any (h : RfR K W yb lv sv S) {id : Int} :
    Calls Try.prog 42 #[.pointer (some ⟨yb, 0, none⟩), .int .i64 id] W fun e w' => e = .returned (.int .i64 (idxI (S.at id) S.rnd.length)) ∧ w' = W := by
  obtain ⟨va, vc, hv, c1, c2⟩ := own_slice h.row
  have k0 := h.k0
  have HR : Hid (∀ j l, S.rnd[j]? = some l → ∃ g, va = some ⟨g, 0, none⟩ ∧ W.cell? ⟨g, j * 2, none⟩ = some (.int .i64 l.id)) := fun j l hj => by
    rcases own_cases h.row with ⟨_, hn, _⟩ | ⟨g, cap, hv2, _⟩
    · have := (List.getElem?_eq_some_iff.1 hj).1
      omega
    · have hr := h.row
      rw [hv2] at hr hv
      injection hv with e1
      exact ⟨g, e1.symm, mem_range hr hj 0 _ rfl⟩
  subst hv
  have hlen := h.len
  have HA : Hid (S.at id = S.rnd.findIdx (fun m => m.id == id)) := rfl
  clear h
  go_enter Try.func42, Try.ntmps42
  go_wp2_with fail
  go_loop [5] (fun I => ∃ i : Nat, i ≤ S.rnd.length ∧ I = .int .i64 (i : Int) ∧ Hid (∀ (j : Nat) (y : Mem), j < i → S.rnd[j]? = some y → (y.id == id) = false)) (fun I => S.rnd.length - (intOf I).toNat)
  case atStart => exact ⟨0, by omega, rfl, fun j y hj => absurd hj (by omega)⟩
  case round =>
    obtain ⟨i, hi, rfl, A⟩ := hrel
    by_cases hlt : i < S.rnd.length
    · have d1 : (i : Int) < (S.rnd.length : Int) := by omega
      obtain ⟨l, hl⟩ : ∃ l, S.rnd[i]? = some l := ⟨_, List.getElem?_eq_getElem hlt⟩
      obtain ⟨g, rfl, kl⟩ := HR.out i l hl
      have HL : Hid (S.rnd[i]? = some l) := hl
      clear hl HR
      generalize hb : (l.id == id) = b
      have HB : Hid ((l.id == id) = b) := hb
      cases b
      · go_wp2_with fail
        refine ⟨⟨i + 1, by omega, by first | rfl | (simp; done), fun j y hj hy => ?_⟩, ?_⟩
        · by_cases e : j = i
          · subst e
            rw [HL.out] at hy
            injection hy with hy
            subst hy
            exact HB.out
          · exact A.out j y (by omega) hy
        · simp [intOf]
          omega
      · have HF : Hid (S.at id = i) := by rw [HA.out]; exact findIdx_hit (p := fun m : Mem => m.id == id) HL.out HB.out A.out
        go_wp2_with fail
        go_ret
        exact ⟨by rw [HF.out, idxI_lt hlt]; rfl, rfl⟩
    · have d1 : ¬ (i : Int) < (S.rnd.length : Int) := by omega
      have HF : Hid (S.at id = S.rnd.length) := by rw [HA.out]; exact findIdx_none (p := fun m : Mem => m.id == id) fun j y hj => A.out j y (by have := (List.getElem?_eq_some_iff.1 hj).1; omega) hj
      go_wp2_with fail
      go_ret
      exact ⟨by rw [HF.out, idxI_no (by omega)]; rfl, rfl⟩
theorem busy_of {id : Int} {j : Nat} {t : Mem} (h0 : 0 ≤ id) (ht : S.slo[j]? = some t) (h : (slI t == id) = true) : S.busy id = true := by
  unfold Sd.busy
  rw [List.any_eq_true]
  refine ⟨t, List.mem_of_getElem? ht, ?_⟩
  unfold slI at h
  cases hr : t.rd with
  | true => rw [hr] at h; simpa using h
  | false =>
    rw [hr] at h
    simp at h
    omega
theorem busy_no {id : Int} (h0 : 0 ≤ id) (h : ∀ (j : Nat) (t : Mem), S.slo[j]? = some t → (slI t == id) = false) : S.busy id = false := by
  unfold Sd.busy
  rw [Bool.eq_false_iff]
  intro hb
  obtain ⟨t, ht, h2⟩ := List.any_eq_true.1 hb
  obtain ⟨j, hj⟩ := List.mem_iff_getElem?.1 ht
  have := h j t hj
  unfold slI at this
  simp only [Bool.and_eq_true] at h2
  rw [h2.2] at this
  simp at this h2
  exact this h2.1
set_option maxRecDepth 100000 in
set_option maxHeartbeats 1000000 in
theorem turns_any (h : RfR K W yb lv sv S) {id : Int} (h0 : 0 ≤ id) :
    Calls Try.prog 44 #[.pointer (some ⟨yb, 0, none⟩), .int .i64 id] W fun e w' => e = .returned (.bool (S.busy id)) ∧ w' = W := by
  obtain ⟨va, vc, hv, c1, c2⟩ := own_slice h.slo
  have k1 := h.k1
  have HR : Hid (∀ j l, S.slo[j]? = some l → ∃ g, va = some ⟨g, 0, none⟩ ∧ W.cell? ⟨g, j, none⟩ = some (.int .i64 (slI l))) := fun j l hj => by
    rcases own_cases h.slo with ⟨_, hn, _⟩ | ⟨g, cap, hv2, _⟩
    · have := (List.getElem?_eq_some_iff.1 hj).1
      omega
    · have hr := h.slo
      rw [hv2] at hr hv
      injection hv with e1
      have hjl := (List.getElem?_eq_some_iff.1 hj).1
      have := own_cell hr j (by omega)
      rw [Nat.zero_add] at this
      exact ⟨g, e1.symm, by rw [this]; exact nums_at (by rw [List.getElem?_map, hj]; rfl)⟩
  subst hv
  have HB0 : Hid (0 ≤ id) := h0
  clear h h0
  go_enter Try.func44, Try.ntmps44
  go_wp2_with fail
  go_loop [5] (fun I => ∃ i : Nat, i ≤ S.slo.length ∧ I = .int .i64 (i : Int) ∧ Hid (∀ (j : Nat) (y : Mem), j < i → S.slo[j]? = some y → (slI y == id) = false)) (fun I => S.slo.length - (intOf I).toNat)
  case atStart => exact ⟨0, by omega, rfl, fun j y hj => absurd hj (by omega)⟩
  case round =>
    obtain ⟨i, hi, rfl, A⟩ := hrel
    by_cases hlt : i < S.slo.length
    · have d1 : (i : Int) < (S.slo.length : Int) := by omega
      obtain ⟨l, hl⟩ : ∃ l, S.slo[i]? = some l := ⟨_, List.getElem?_eq_getElem hlt⟩
      obtain ⟨g, rfl, kl⟩ := HR.out i l hl
      have HL : Hid (S.slo[i]? = some l) := hl
      clear hl HR
      generalize hsl : slI l = x at kl
      generalize hb : (x == id) = b
      have HB : Hid ((slI l == id) = b) := by rw [hsl]; exact hb
      clear hsl
      cases b
      · go_wp2_with fail
        refine ⟨⟨i + 1, by omega, by first | rfl | (simp; done), fun j y hj hy => ?_⟩, ?_⟩
        · by_cases e : j = i
          · subst e
            rw [HL.out] at hy
            injection hy with hy
            subst hy
            exact HB.out
          · exact A.out j y (by omega) hy
        · simp [intOf]
          omega
      · have HF : Hid (S.busy id = true) := busy_of HB0.out HL.out HB.out
        go_wp2_with fail
        go_ret
        exact ⟨by rw [HF.out]; rfl, rfl⟩
    · have d1 : ¬ (i : Int) < (S.slo.length : Int) := by omega
      have HF : Hid (S.busy id = false) := busy_no HB0.out fun j y hj => A.out j y (by have := (List.getElem?_eq_some_iff.1 hj).1; omega) hj
      go_wp2_with fail
      go_ret
      exact ⟨by rw [HF.out]; rfl, rfl⟩
end Go.Proofs.Ytakciepfckdpfaa
