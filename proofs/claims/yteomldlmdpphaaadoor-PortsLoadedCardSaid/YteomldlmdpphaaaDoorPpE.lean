/- What was sent, told: slices.Clone at []byte by the library's contract. -/
import Derived.Test.YteomldlmdpphaaaDoorPpT
import Derived.Shelf.SlicesE.Clone
namespace Go.Proofs.YteomldlmdpphaaaDoor
open Go.Shelf Go.RowKit
set_option linter.unusedVariables false
variable {b : Nat} {p : Po}
def cloRen : Go.Shelf.Ren := ⟨fun | 41 => 43 | n => n, fun | 22 => 35 | 23 => 5 | 4 => 4 | n => n, fun | n => n⟩
theorem cloB : Go.Proofs.SlLaysE0.n41 Tryd.prog cloRen := {
  mixed := by kernel_rfl
  f41 := ⟨Tryd.f43.name, by decide, Tryd.func43.trans (congrArg some (by kernel_rfl))⟩
  t4 := Tryd.underlying4
  a4 := Tryd.isAgg4
  z4 := Tryd.sizeOf4
  v4 := Tryd.zeroValue4
  t22 := Tryd.underlying35
  a22 := Tryd.isAgg35
  z22 := Tryd.sizeOf35
  v22 := Tryd.zeroValue35 }
theorem Bs.ofOwn {W : World} {base : Nat} {v : Value} {zs : List Int} (h : SeAt W base v zs) : Bs W v zs := by
  obtain ⟨h0, hh⟩ := h
  rcases hh with ⟨hv, hz⟩ | ⟨g, cap, cur, hv, hbase, hg, hn, hcm, hcs, htk⟩
  · refine ⟨Or.inl ⟨?_, hv⟩⟩
    have : zs.length = 0 := by simpa using hz
    exact List.eq_nil_of_length_eq_zero this
  · refine ⟨Or.inr ⟨g, 0, cap, hv, fun j x hx => ?_⟩⟩
    have hj : j < zs.length := (List.getElem?_eq_some_iff.1 hx).1
    rw [Nat.zero_add, cell_of_row _ _ _ _ _ _ hg]
    have h1 : (cur.toList.take (zs.length * 1))[j]? = (zs.map (Value.int .u8))[j]? := by rw [htk]
    rw [Nat.mul_one, List.getElem?_take_of_lt hj] at h1
    rw [← Array.getElem?_toList, h1]
    simp [hx]
theorem clone_any (base : Nat) (v : Value) (zs : List Int) (hn : zs.length ≤ 256) (W : World) (hS : SeAt W base v zs) :
    Calls Tryd.prog 43 #[v] W fun e w' => ∃ v', e = .returned v' ∧ Bs w' v' zs ∧ Up W w' := by
  rcases (Bs.ofOwn hS).at' with ⟨rfl, rfl⟩ | ⟨g, o, cap, rfl, hc⟩
  · exact (Go.Proofs.AnyE.slices_Clone_nil cloB 0 0 W).mono fun e w' ⟨h1, h2⟩ => by subst h2; exact ⟨_, h1, ⟨Or.inl ⟨rfl, rfl⟩⟩, Up.refl _⟩
  · refine (Go.Proofs.AnyE.slices_Clone cloB Tryd.t5 (.int .u8 0) 1 1 (by kernel_rfl) (by kernel_rfl) (by kernel_rfl) (by kernel_rfl) rfl (by decide) Tryd.sizeOf5 g o zs.length cap (zs.map (Value.int .u8)) W (by simp) (by unfold maxLen; omega) (by omega) (fun j u hj => ?_) (fun u hu => ?_)).mono ?_
    · rw [List.getElem?_map] at hj
      cases hz : zs[j]? with
      | none => rw [hz] at hj; cases hj
      | some x =>
        rw [hz] at hj
        injection hj with hj
        rw [← hj]
        exact hc j x hz
    · obtain ⟨x, _, rfl⟩ := List.mem_map.1 hu
      rfl
    · rintro e w' ⟨v', h1, h2, h3, h4⟩
      exact ⟨v', h1, Bs.ofOwn (base := W.heap.size) h2, Up.ofBelow h4⟩
set_option maxRecDepth 100000 in
theorem Pb.sent {W0 : World} {K : List (Nat × Obj)} {zs : List Int} {W : World} (h : Pb W0 K b p zs W) :
    Calls Tryd.prog 21 #[.pointer (some ⟨b, 0, none⟩)] W fun e w' => ∃ v', e = .returned v' ∧ Bs w' v' zs ∧ Up W w' := by
  obtain ⟨v, h1, h2, _⟩ := h.row
  obtain ⟨k0, k1, k2, k3, k4, k5, k6, k7, k8, k9, k10, k11, k12⟩ := h1.all
  have HC : Hid _ := clone_any (b + 1) v zs h.len W h2
  clear h h1 h2
  go_enter Tryd.func21, Tryd.ntmps21
  go_wp2_with fail
  refine Calls.mono HC.out ?_
  rintro e w' ⟨v', rfl, B, u⟩
  have HB : Hid _ := And.intro B u
  clear B u HC
  go_wp2_with fail
  go_ret
  exact ⟨v', rfl, HB.out.1, HB.out.2⟩
end Go.Proofs.YteomldlmdpphaaaDoor
