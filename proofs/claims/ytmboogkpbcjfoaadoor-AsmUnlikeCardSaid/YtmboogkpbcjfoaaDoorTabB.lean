/- A rule's text filled in, over the translation. Conditions: the text is of ASCII and at most 100 bytes; y and z are below 8; the rows of words lie in their variables. -/
import Derived.Test.YtmboogkpbcjfoaaDoorTabB0
namespace Go.Proofs.YtmboogkpbcjfoaaDoor
open Go.RowKit
set_option linter.unusedVariables false
set_option maxRecDepth 1000000 in
set_option maxHeartbeats 1000000 in
theorem fill_any (t : List UInt8) (y z : Nat) (w : World) (hasc : ∀ c ∈ t, c.toNat < 128) (hlen : t.length ≤ 100) (hy : y < 8) (hz : z < 8) (L : Laid w) :
    Calls Tryd.prog 15 #[.string ⟨t.toArray⟩, .int .i64 y, .int .i64 z] w fun e w' => e = .returned (.tuple #[.string ⟨(fillT y z t).toArray⟩, .int .i64 (fillA t 0)]) ∧ Below w.heap.size w w' := by
  obtain ⟨s, hs⟩ : ∃ s : ByteArray, s = ⟨t.toArray⟩ := ⟨_, rfl⟩
  have hsz : s.size = t.length := by rw [hs]; simp [ByteArray.size]
  have hget : ∀ k (h : k < s.size) (h' : k < t.length), s[k]'h = t[k]'h' := by subst hs; intro k h h'; rfl
  have HG : Hid (∀ k (h : k < s.size) (h' : k < t.length), s[k]'h = t[k]'h') := hget
  have HS : Hid (s.size = t.length) := hsz
  have hsl : s.size ≤ 100 := by omega
  have HA : Hid (∀ c ∈ t, c.toNat < 128) := hasc
  rw [← hs]
  clear hs hget hasc hsz
  go_enter Tryd.func15, Tryd.ntmps15
  go_wp2
  go_loopw [9] (fun n wr => ∃ (k a : Nat) (acc : List UInt8), n = .int .i64 a ∧ k ≤ t.length ∧ Lib.IsBuilderF 54 5 w.heap.size w.heap.size (Lib.byteCells acc) wr ∧ wr.heap[w.heap.size + 1]? = some (.stringIter s k) ∧ Below w.heap.size w wr ∧ Hid (acc ++ fillT y z (t.drop k) = fillT y z t) ∧ Hid (fillA (t.drop k) a = fillA t 0) ∧ acc.length ≤ 5 * k) (fun _ wr => s.size - wr.iterPos (w.heap.size + 1))
  case atStart =>
    refine ⟨0, 0, [], rfl, by omega, (Lib.IsBuilderF.of (Lib.fresh_isBuilder 54 5 w)).alloc _, ?_, ((Below.refl _ w).alloc (Nat.le_refl _) _).alloc (by simp) _, rfl, rfl, by simp⟩
    have := World.iter_heap (w.alloc (.cells #[.pointer none, .slice none 0 0] 54)) s 0
    simpa using this
  case round =>
    obtain ⟨k, a, acc, rfl, hk, hI, hit, hbw, hacc, harg, hal⟩ := hrel
    have hsz : w.heap.size + 1 < wr.heap.size := (Array.getElem?_eq_some_iff.1 hit).1
    by_cases hp : k < t.length
    · have hp' : k < s.size := by rw [HS.out]; exact hp
      obtain ⟨c, hc⟩ : ∃ c, c = t[k]'hp := ⟨_, rfl⟩
      have hca : c.toNat < 128 := by rw [hc]; exact HA.out _ (List.getElem_mem _)
      have hcs : s[k]'hp' = c := by rw [HG.out k hp' hp, hc]
      have hdrop : t.drop k = c :: t.drop (k + 1) := by rw [hc]; exact List.drop_eq_getElem_cons hp
      have hnx : ∀ ty, (Instr.next (.pointer (some ⟨w.heap.size + 1, 0, none⟩)) true ty).run Tryd.prog wr = .ok (.tuple #[.bool true, .int .i64 k, .int .i32 c.toNat]) (wr.iterAt (w.heap.size + 1) s (k + 1)) := by
        intro ty
        rw [Lib.run_next_ascii_at wr (w.heap.size + 1) s k ty hit hp' (by rw [hcs]; exact hca), hcs]
      have hacc2 : Hid ((acc ++ fillC y z c) ++ fillT y z (t.drop (k + 1)) = fillT y z t) := by
        show _ = _
        rw [← hacc.out, hdrop]
        simp [fillT]
      have harg2 : Hid (fillA (t.drop (k + 1)) (if argL c.toNat = 0 then a else argL c.toNat) = fillA t 0) := by
        show _ = _
        rw [← harg.out, hdrop]
        rfl
      have hfl := fillC_len y z c hy hz
      clear hdrop hcs hacc harg hc
      have hI2 := hI.iterAt hit (k + 1)
      have hit2 := Lib.iterAt_heap wr (w.heap.size + 1) s k (k + 1) hit
      have hbw2 := Lib.below_iterAt hbw (k := w.heap.size + 1) (by omega) s (k + 1)
      have hsz2 : w.heap.size + 1 < (wr.iterAt (w.heap.size + 1) s (k + 1)).heap.size := by rw [Lib.iterAt_size]; exact hsz
      have L2 : Laid (wr.iterAt (w.heap.size + 1) s (k + 1)) := L.kept (Kept.ofBelow hbw2)
      by_cases hz0 : argL c.toNat = 0
      · have hd : (((argL c.toNat : Nat) : Int) != 0) = false := by rw [hz0]; rfl
        have hfc : fillC y z c = wordL c.toNat y z := by unfold fillC; rw [if_pos hz0]
        have harg3 : Hid (fillA (t.drop (k + 1)) a = fillA t 0) := by have := harg2.out; rw [if_pos hz0] at this; exact this
        have HF : Hid (fillC y z c = wordL c.toNat y z) := hfc
        have HZ : Hid (argL c.toNat = 0) := hz0
        rw [hfc] at hfl
        clear hfc hz0 harg2
        go_wp2_with (go_at_call 24; refine (argOf_any c.toNat _ hca).mono ?_; rintro e w1 ⟨rfl, hb1⟩)
        have L3 : Laid w1 := L2.kept (Kept.ofBelow hb1)
        have hI3 := ib_below hI2 hb1
        have hit3 : w1.heap[w.heap.size + 1]? = some (.stringIter s (k + 1)) := by rw [hb1.block _ hsz2]; exact hit2
        have hbw3 : Below w.heap.size w w1 := hbw2.trans (hb1.mono (by omega))
        have hsz3 : w.heap.size ≤ w1.heap.size := by have := hb1.size; omega
        have HI : Hid (wr.heap[w.heap.size + 1]? = some (.stringIter s k)) := hit
        clear hI hit hbw hsz hnx hI2 hit2 hbw2 hsz2 L2 hb1
        refine (wordOf_any c.toNat y z _ hca hy hz L3).mono ?_
        rintro e w2 ⟨rfl, rfl⟩
        go_wp2_with fail
        refine (Tryd.WriteString_k w.heap.size w.heap.size _ ⟨(wordL c.toNat y z).toArray⟩ _ hI3 (by rw [Lib.byteCells_length]; simp only [ByteArray.size, List.size_toArray]; omega) hsz3).mono ?_
        rintro e W1 ⟨rfl, h1, b1, k1⟩
        go_wp2
        go_roundw
        case rel =>
          refine ⟨k + 1, a, acc ++ wordL c.toNat y z, rfl, by omega, ?_, k1.iter hit3 (by omega), hbw3.trans b1, ?_, harg3, by simp; omega⟩
          · rw [Lib.byteCells_append]; exact Or.inr h1
          · have := hacc2.out; rw [HF.out] at this; exact this
        case measure =>
          simp only [World.iterPos, k1.iter hit3 (by omega), HI.out]
          omega
      · have hd : (((argL c.toNat : Nat) : Int) != 0) = true := by rw [bne_iff_ne]; omega
        have hfc : fillC y z c = wordL 35 y z := by unfold fillC; rw [if_neg hz0]
        have harg3 : Hid (fillA (t.drop (k + 1)) (argL c.toNat) = fillA t 0) := by have := harg2.out; rw [if_neg hz0] at this; exact this
        have HF : Hid (fillC y z c = wordL 35 y z) := hfc
        have HZ : Hid (¬ argL c.toNat = 0) := hz0
        rw [hfc] at hfl
        clear hfc hz0 harg2
        go_wp2_with (go_at_call 24; refine (argOf_any c.toNat _ hca).mono ?_; rintro e w1 ⟨rfl, hb1⟩)
        have L3 : Laid w1 := L2.kept (Kept.ofBelow hb1)
        have hI3 := ib_below hI2 hb1
        have hit3 : w1.heap[w.heap.size + 1]? = some (.stringIter s (k + 1)) := by rw [hb1.block _ hsz2]; exact hit2
        have hbw3 : Below w.heap.size w w1 := hbw2.trans (hb1.mono (by omega))
        have hsz3 : w.heap.size ≤ w1.heap.size := by have := hb1.size; omega
        have HI : Hid (wr.heap[w.heap.size + 1]? = some (.stringIter s k)) := hit
        clear hI hit hbw hsz hnx hI2 hit2 hbw2 hsz2 L2 hb1
        refine (wordOf_any 35 y z _ (by omega) hy hz L3).mono ?_
        rintro e w2 ⟨rfl, rfl⟩
        go_wp2_with fail
        refine (Tryd.WriteString_k w.heap.size w.heap.size _ ⟨(wordL 35 y z).toArray⟩ _ hI3 (by rw [Lib.byteCells_length]; simp only [ByteArray.size, List.size_toArray]; omega) hsz3).mono ?_
        rintro e W1 ⟨rfl, h1, b1, k1⟩
        go_wp2
        go_roundw
        case rel =>
          refine ⟨k + 1, (argL c.toNat), acc ++ wordL 35 y z, rfl, by omega, ?_, k1.iter hit3 (by omega), hbw3.trans b1, ?_, harg3, by simp; omega⟩
          · rw [Lib.byteCells_append]; exact Or.inr h1
          · have := hacc2.out; rw [HF.out] at this; exact this
        case measure =>
          simp only [World.iterPos, k1.iter hit3 (by omega), HI.out]
          omega
    · have hp' : ¬ k < s.size := by rw [HS.out]; exact hp
      have hnx : ∀ ty, (Instr.next (.pointer (some ⟨w.heap.size + 1, 0, none⟩)) true ty).run Tryd.prog wr = _ := fun ty => Lib.run_next_end_at wr (w.heap.size + 1) s k ty hit hp'
      go_wp2_with (go_at_call 22; refine (Tryd.Builder_String_any_k w.heap.size w.heap.size acc _ hI (by omega)).mono ?_)
      rintro e W1 ⟨rfl, _, b1, _⟩
      go_wp2
      have h1 := hacc.out
      have h2 := harg.out
      rw [List.drop_of_length_le (by omega)] at h1 h2
      simp only [fillT, List.flatMap_nil, List.append_nil, fillA] at h1 h2
      go_ret2
      exact ⟨by rw [h1, h2]; rfl, hbw.trans b1⟩
end Go.Proofs.YtmboogkpbcjfoaaDoor
