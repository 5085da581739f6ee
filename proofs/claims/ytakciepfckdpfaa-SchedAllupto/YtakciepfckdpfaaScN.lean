/- Sched: turns that are ended at once; round and round. -/
import Derived.Test.YtakciepfckdpfaaScM
namespace Go.Proofs.Ytakciepfckdpfaa
open Go.RowKit
set_option linter.unusedVariables false
/-- so many slots, all free -/
def offs (k : Nat) : List Mem := List.replicate k ⟨0, false⟩
theorem offs_len (k : Nat) : (offs k).length = k := by simp [offs]
theorem busy_offs {l : List Mem} {k : Nat} {id : Int} : (⟨l, offs k⟩ : Sd).busy id = false := by
  unfold Sd.busy offs
  rw [Bool.eq_false_iff]
  intro h
  obtain ⟨t, ht, h2⟩ := List.any_eq_true.1 h
  rw [List.eq_of_mem_replicate ht] at h2
  simp at h2
theorem next_offs {l : List Mem} {k : Nat} : (⟨l, offs k⟩ : Sd).next = l.findIdx (fun m => m.rd) := by
  unfold Sd.next
  congr 1
  funext m
  rw [busy_offs]
  simp
theorem slot_nat {S : Sd} {s : Nat} {t : Mem} (h : S.slo[s]? = some t) : S.slot (s : Int) = some t := by
  unfold Sd.slot
  rw [if_pos (by omega), Int.toNat_natCast]
  exact h
theorem offs_at {k s : Nat} (h : s < k) : (offs k)[s]? = some ⟨0, false⟩ := by
  unfold offs
  rw [List.getElem?_replicate, if_pos h]
theorem offs_back {k s : Nat} {y : Mem} : ((offs k).set s y).set s ⟨0, false⟩ = offs k := by
  unfold offs
  rw [List.set_set]
  refine List.ext_getElem? fun j => ?_
  rw [List.getElem?_set]
  by_cases e : s = j
  · subst e
    rw [if_pos rfl]
    by_cases h : s < k
    · rw [if_pos (by simpa using h), List.getElem?_replicate, if_pos h]
    · rw [if_neg (by simpa using h), List.getElem?_eq_none (by simp; omega)]
  · rw [if_neg e]
/-- a turn begins and is ended -/
theorem Sd.turn {l : List Mem} {k s p : Nat} {x : Mem} (hs : s < k) (hp : l.findIdx (fun m => m.rd) = p) (hx : l[p]? = some x) :
    (⟨l, offs k⟩ : Sd).begE (s : Int) = 0 ∧ (⟨l, offs k⟩ : Sd).begN (s : Int) = x.id ∧ (⟨l, offs k⟩ : Sd).begin (s : Int) = ⟨l.eraseIdx p ++ [x], (offs k).set s ⟨x.id, true⟩⟩ ∧
    (⟨l.eraseIdx p ++ [x], (offs k).set s ⟨x.id, true⟩⟩ : Sd).endE (s : Int) = 0 ∧ (⟨l.eraseIdx p ++ [x], (offs k).set s ⟨x.id, true⟩⟩ : Sd).endN (s : Int) = x.id ∧
    (⟨l.eraseIdx p ++ [x], (offs k).set s ⟨x.id, true⟩⟩ : Sd).done (s : Int) = ⟨l.eraseIdx p ++ [x], offs k⟩ := by
  have hpl := (List.getElem?_eq_some_iff.1 hx).1
  have hn : (⟨l, offs k⟩ : Sd).next = p := next_offs.trans hp
  have hM : (⟨l, offs k⟩ : Sd).nextM = x := by
    unfold Sd.nextM
    rw [hn, List.getD_eq_getElem?_getD]
    show (l[p]?).getD _ = x
    rw [hx]
    rfl
  have e1 : (⟨l, offs k⟩ : Sd).begE (s : Int) = 0 := by
    unfold Sd.begE
    rw [slot_nat (S := ⟨l, offs k⟩) (offs_at hs), hn]
    show (if false = true then _ else if p < l.length then _ else _) = _
    rw [if_neg (by decide), if_pos hpl]
  have hs2 : ((offs k).set s ⟨x.id, true⟩)[s]? = some ⟨x.id, true⟩ := by rw [List.getElem?_set, if_pos rfl, if_pos (by rw [offs_len]; exact hs)]
  have e4 : (⟨l.eraseIdx p ++ [x], (offs k).set s ⟨x.id, true⟩⟩ : Sd).endE (s : Int) = 0 := by
    unfold Sd.endE
    rw [slot_nat (S := ⟨_, _⟩) hs2]
    rfl
  refine ⟨e1, ?_, ?_, e4, ?_, ?_⟩
  · unfold Sd.begN
    rw [if_pos e1, hM]
  · unfold Sd.begin
    rw [if_pos e1, hM, hn, Int.toNat_natCast]
  · unfold Sd.endN
    rw [if_pos e4, Int.toNat_natCast, List.getD_eq_getElem?_getD]
    show (((offs k).set s _)[s]?.getD _).id = _
    rw [hs2]
    rfl
  · unfold Sd.done
    rw [if_pos e4, Int.toNat_natCast]
    show Sd.mk _ (((offs k).set s _).set s _) = _
    rw [offs_back]
/-- the round of n numbers, all ready, i turns on -/
def rot (n i : Nat) : List Mem := (List.range n).map (fun (j : Nat) => ⟨((i + j) % n : Nat), true⟩)
theorem rot_zero (n : Nat) : rot n 0 = allR n := by
  unfold rot allR
  refine List.map_congr_left fun j hj => ?_
  have := List.mem_range.1 hj
  rw [Nat.zero_add, Nat.mod_eq_of_lt this]
theorem rot_len (n i : Nat) : (rot n i).length = n := by simp [rot]
theorem rot_at {n i j : Nat} (h : j < n) : (rot n i)[j]? = some ⟨((i + j) % n : Nat), true⟩ := by
  unfold rot
  rw [List.getElem?_map, List.getElem?_range h]
  rfl
theorem rot_next {n i : Nat} (h : 0 < n) : (rot n i).findIdx (fun m => m.rd) = 0 :=
  findIdx_hit (p := fun m : Mem => m.rd) (rot_at h) rfl (fun j z hj => absurd hj (by omega))
theorem rot_succ {n i : Nat} (h : 0 < n) : (rot n i).eraseIdx 0 ++ [⟨((i + 0) % n : Nat), true⟩] = rot n (i + 1) := by
  obtain ⟨m, rfl⟩ : ∃ m, n = m + 1 := ⟨n - 1, by omega⟩
  refine List.ext_getElem? fun j => ?_
  have hl : ((rot (m + 1) i).eraseIdx 0).length = m := by rw [List.length_eraseIdx_of_lt (by rw [rot_len]; omega), rot_len]; omega
  by_cases h1 : j < m
  · rw [List.getElem?_append_left (by omega), List.getElem?_eraseIdx, if_neg (by omega), rot_at (by omega), rot_at (by omega), show i + (j + 1) = i + 1 + j by omega]
  · by_cases h2 : j = m
    · subst h2
      rw [List.getElem?_append_right (by omega), hl, Nat.sub_self, rot_at (by omega), show i + 1 + j = i + (j + 1) by omega, Nat.add_mod_right]
      rfl
    · rw [List.getElem?_eq_none (by rw [List.length_append, hl]; simp; omega), List.getElem?_eq_none (by rw [rot_len]; omega)]
end Go.Proofs.Ytakciepfckdpfaa
