/- Cart: title. -/
import Derived.Test.YtojlappgmckokaaDoorCaF
import Derived.Test.YtojlappgmckokaaDoorShelf
import Derived.Laws.BytesArg
import Derived.Lib.IndexLaws
namespace Go.Proofs.YtojlappgmckokaaDoor
open Go.Shelf Go.RowKit
set_option linter.unusedVariables false
variable {w w' W : World} {g n : Nat} {f : Nat → Int}
def strF (f : Nat → Int) (o m : Nat) : ByteArray := strOfNums ((List.range m).map fun k => f (o + k))
theorem strF_size (f : Nat → Int) (o m : Nat) : (strF f o m).size = m := by unfold strF; rw [strOfNums_size]; simp
theorem getD_range {f : Nat → Int} {o m i : Nat} (h : i < m) : ((List.range m).map fun k => f (o + k)).getD i 0 = f (o + i) := by
  rw [List.getD_eq_getElem?_getD, List.getElem?_map, List.getElem?_range h]
  rfl
theorem By.conv {o m c : Nat} (h : By w g n f) (hm : o + m ≤ n) : (convert 24 9 (.slice (some ⟨g, o, none⟩) m c)).run Tryd.prog w = .ok (.string (strF f o m)) w := by
  refine run_convert_bytes_arg w 24 5 Tryd.underlying24 Tryd.underlying5 g o m c _ (by simp) (fun i hi => ?_) 9 Tryd.underlying9
  rw [getD_range hi]
  exact h.cell (o + i) (by omega)
/-- how long the title is -/
def TitleIs (f : Nat → Int) (m : Nat) : Prop := m ≤ 15 ∧ (∀ j, j < m → f (308 + j) ≠ 0) ∧ (m < 15 → f (308 + m) = 0)
def TitleAns (W : World) (f : Nat → Int) (e : Ending) (w' : World) : Prop := ∃ m, e = .returned (.string (strF f 308 m)) ∧ TitleIs f m ∧ Up W w'
theorem u8_zero {x : Int} (h0 : 0 ≤ x) (h1 : x ≤ 255) : UInt8.ofNat x.toNat = 0 ↔ x = 0 := by
  constructor
  · intro h
    have := congrArg UInt8.toNat h
    simp [UInt8.toNat_ofNat] at this
    omega
  · rintro rfl
    rfl
theorem title_cut {c' s : Nat} (h : By w g n f) (hn : 512 ≤ n) (hc : 15 ≤ c') (h8 : ∀ k, 0 ≤ f k ∧ f k ≤ 255) (hs : w.cell? ⟨s, 0, none⟩ = some (.int .u8 0)) :
    Calls Tryd.prog 61 #[.slice (some ⟨g, 308, none⟩) 15 c', .slice (some ⟨s, 0, none⟩) 1 1] w fun e w' => ∃ m ra rn rc b, e = .returned (.tuple #[.slice (some ⟨g, 308, none⟩) m c', .slice ra rn rc, .bool b]) ∧ TitleIs f m ∧ Up w w' := by
  have hx : ((List.range 15).map fun k => f (308 + k)).length = 15 := by simp
  have hidx := Tryd.bytes_Index_one g 308 15 c' s 0 1 ((List.range 15).map fun k => f (308 + k)) 0 w hx (fun i hi => by rw [getD_range hi]; exact h.cell (308 + i) (by omega)) hs
  have hat : ∀ j, j < 15 → (Lib.bytesOf ((List.range 15).map fun k => f (308 + k)))[j]? = some (UInt8.ofNat (f (308 + j)).toNat) := fun j hj => by
    unfold Lib.bytesOf
    rw [List.getElem?_map, List.getElem?_map, List.getElem?_range hj]
    rfl
  have hz : ((0 : Int).toNat.toUInt8) = 0 := rfl
  rw [hz] at hidx
  generalize hI : Lib.indexByte (Lib.bytesOf ((List.range 15).map fun k => f (308 + k))) 0 = I at hidx
  have hge : -1 ≤ I := by rw [← hI]; exact Lib.indexByte_ge _ _
  have hT : TitleIs f (if 0 ≤ I then I.toNat else 15) ∧ (0 ≤ I → I + 1 ≤ 15) := by
    by_cases h0 : 0 ≤ I
    · obtain ⟨o, rfl⟩ := Int.eq_ofNat_of_zero_le h0
      obtain ⟨q1, q2⟩ := Lib.indexByte_some hI
      have ho : o < 15 := by
        have := (List.getElem?_eq_some_iff.1 q1).1
        simpa [Lib.bytesOf] using this
      rw [if_pos h0]
      refine ⟨⟨by simp; omega, fun j hj => ?_, fun _ => ?_⟩, fun _ => by omega⟩
      · intro e
        have hj : j < o := by simpa using hj
        refine q2 j hj ?_
        rw [hat j (by omega), e]
        rfl
      · have := hat o ho
        rw [q1] at this
        injection this with this
        simpa using (u8_zero (h8 _).1 (h8 _).2).1 this.symm
    · rw [if_neg h0]
      have hI1 : I = -1 := by omega
      rw [hI1] at hI
      have q := Lib.indexByte_none hI
      refine ⟨⟨Nat.le_refl _, fun j hj e => ?_, fun h => by omega⟩, fun h => absurd h h0⟩
      refine q j ?_
      rw [hat j hj, e]
      rfl
  refine (Tryd.bytes_Cut_of (some ⟨g, 308, none⟩) (some ⟨s, 0, none⟩) 15 c' 1 1 I w hc hge hT.2 (by decide) (hidx.mono fun e w' ⟨q1, q2⟩ => ⟨q1, 0, q2⟩)).mono ?_
  rintro e w' ⟨he, q, hw⟩
  have hu : Up w w' := by rw [hw]; exact Up.drewN w q
  unfold Lib.cutV at he
  by_cases h0 : 0 ≤ I
  · rw [if_pos h0] at he
    have hT1 := hT.1
    rw [if_pos h0] at hT1
    unfold Lib.fromV at he
    exact ⟨_, _, _, _, _, he, hT1, hu⟩
  · rw [if_neg h0] at he
    have hT1 := hT.1
    rw [if_neg h0] at hT1
    exact ⟨_, _, _, _, _, he, hT1, hu⟩
set_option maxRecDepth 100000 in
set_option maxHeartbeats 1000000 in
theorem title_any {c : Nat} (h : By W g n f) (hn : 512 ≤ n) (hc : n ≤ c) (hm : c ≤ 9223372036854775807) (h8 : ∀ k, 0 ≤ f k ∧ f k ≤ 255) : Calls Tryd.prog 34 #[.slice (some ⟨g, 0, none⟩) n c] W (TitleAns W f) := by
  have HB : Hid (By W g n f) := h
  have H8 : Hid (∀ k, 0 ≤ f k ∧ f k ≤ 255) := h8
  have hg := h.lt
  clear h h8
  go_enter Tryd.func34, Tryd.ntmps34
  go_wp2_with fail
  have ua : Up W (W.alloc (Obj.cells #[.int .u8 0] 5)) := (Up.refl W).alloc _
  have HC : Hid _ := title_cut (c' := c - 308) (s := W.heap.size) (HB.out.up ua) hn (by omega) H8.out (heap_cell (heap_alloc_new W _) rfl)
  have HU : Hid _ := ua
  clear ua
  generalize World.alloc W _ = W1 at HC HU ⊢
  refine Calls.mono HC.out ?_
  rintro e w' ⟨m, ra, rn, rc, b, rfl, ht, u⟩
  have hv := (HB.out.up (HU.out.trans u)).conv (o := 308) (m := m) (c := c - 308) (by have := ht.1; omega)
  have HT : Hid (TitleIs f m ∧ Up W w') := ⟨ht, HU.out.trans u⟩
  clear ht u HC
  go_wp2_with fail
  go_ret
  exact ⟨m, by first | rfl | (simp; done), HT.out.1, HT.out.2⟩
end Go.Proofs.YtojlappgmckokaaDoor
