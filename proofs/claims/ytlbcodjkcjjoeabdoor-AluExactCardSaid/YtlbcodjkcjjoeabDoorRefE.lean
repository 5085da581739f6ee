/- What the reference's sums and differences of rows come to, as contracts over the translation. Conditions: at most sixteen bits. -/
import Derived.Test.YtlbcodjkcjjoeabDoorRefC
namespace Go.Proofs.YtlbcodjkcjjoeabDoor
open Go.ChangeShapes Go.WideShapes Go.ChangeAt Go.RowKit
set_option linter.unusedVariables false


theorem less_snocS (A B : Nat) (c x y z : Bool) (k : Nat) (hx : x = bitB A k) (hy : y = bitB B k) (hz : z = borN A B c k) (u : Bool) (hu : u = ((b2n x + b2n y + b2n z) % 2 == 1)) :
    ((List.range k).map fun j => Value.bool (difB A B c j)) ++ [.bool u] = (List.range (k + 1)).map fun j => Value.bool (difB A B c j) := by
  rw [List.range_succ, List.map_append, hu, hx, hy, hz]; rfl
theorem less_snocC (A B : Nat) (c x y z : Bool) (k : Nat) (hx : x = bitB A k) (hy : y = bitB B k) (hz : z = borN A B c k) (u : Bool) (hu : u = decide (b2n x < b2n y + b2n z)) :
    ((List.range k).map fun j => Value.bool (borN A B c (j + 1))) ++ [.bool u] = (List.range (k + 1)).map fun j => Value.bool (borN A B c (j + 1)) := by
  rw [List.range_succ, List.map_append, hu, hx, hy, hz]; rfl
theorem less_next (A B : Nat) (c x y z : Bool) (k : Nat) (hx : x = bitB A k) (hy : y = bitB B k) (hz : z = borN A B c k) : decide (b2n x < b2n y + b2n z) = borN A B c (k + 1) := by
  rw [hx, hy, hz]; rfl
set_option maxRecDepth 100000 in
set_option maxHeartbeats 2000000 in
theorem less_any (sa sb : Value) (A B : Nat) (c : Bool) (n : Nat) (w : World) (ha : BRow w sa n (bitB A)) (hb : BRow w sb n (bitB B)) (hn : 0 < n) (hn2 : n ≤ 16) :
    Calls Tryd.prog 59 #[sa, sb, .bool c] w fun e w' => ∃ s r, e = .returned (.tuple #[s, r]) ∧ BRow w' s n (difB A B c) ∧ BRow w' r n (fun k => borN A B c (k + 1)) ∧ Kept w w' := by
  obtain ⟨ba, capa, rfl, hba, hca, hcella⟩ := ha
  obtain ⟨bb, capb, rfl, hbb, hcb, hcellb⟩ := hb
  have HA : Hid (∀ i, i < n → w.cell? ⟨ba, i, none⟩ = some (.bool (bitB A i))) := hcella
  have HB : Hid (∀ i, i < n → w.cell? ⟨bb, i, none⟩ = some (.bool (bitB B i))) := hcellb
  clear hcella hcellb
  go_enter Tryd.func59, Tryd.ntmps59
  go_wp2
  go_loopw [2, 8, 9, 10, 11] (fun cv s r i _ wr => ∃ (k : Nat) (z : Bool), k ≤ n ∧ i = .int .i64 k ∧ cv = .bool z ∧ Hid (z = borN A B c k) ∧ wr.ownsRow w.heap.size 4 1 s k ((List.range k).map fun j => Value.bool (difB A B c j)) ∧ wr.ownsRow w.heap.size 4 1 r k ((List.range k).map fun j => Value.bool (borN A B c (j + 1))) ∧ Ap s r ∧ Below w.heap.size w wr) (fun _ _ _ i _ _ => n - (intOf i).toNat)
  case atStart => exact ⟨0, c, by omega, rfl, rfl, rfl, World.ownsRow_nil _ _ _ _, World.ownsRow_nil _ _ _ _, ap_nil _, Below.refl _ _⟩
  case round =>
    obtain ⟨k, z, hk, rfl, rfl, hz, hos, hor, hap, hbel⟩ := hrel
    by_cases hlt : k < n
    · have hxc := (hbel.cell (p := ⟨ba, k, none⟩) hba).trans (HA.out k hlt)
      have hyc := (hbel.cell (p := ⟨bb, k, none⟩) hbb).trans (HB.out k hlt)
      obtain ⟨x, hx⟩ : ∃ x, x = bitB A k := ⟨_, rfl⟩
      obtain ⟨y, hy⟩ : ∃ y, y = bitB B k := ⟨_, rfl⟩
      rw [← hx] at hxc
      rw [← hy] at hyc
      have SC := less_snocC A B c x y z k hx hy hz.out
      have SS := less_snocS A B c x y z k hx hy hz.out
      have SN : Hid (decide (b2n x < b2n y + b2n z) = borN A B c (k + 1)) := less_next A B c x y z k hx hy hz.out
      have HC : Hid (∀ u, u = decide (b2n x < b2n y + b2n z) → ((List.range k).map fun j => Value.bool (borN A B c (j + 1))) ++ [.bool u] = (List.range (k + 1)).map fun j => Value.bool (borN A B c (j + 1))) := SC
      have HS : Hid (∀ u, u = ((b2n x + b2n y + b2n z) % 2 == 1) → ((List.range k).map fun j => Value.bool (difB A B c j)) ++ [.bool u] = (List.range (k + 1)).map fun j => Value.bool (difB A B c j)) := SS
      have hsz := hbel.size
      clear hx hy hz SC SS
      cases x <;> cases y <;> cases z
      all_goals
        go_wp2_with (first | (at_builtin; refine app _ rfl (.tmp 35) (.tmp 42) rfl w.heap.size _ _ _ rfl hos _ rfl (by omega) hsz ?_; intro v1 w1 ho1 hb1 hk1; rw [HS.out _ (by decide)] at ho1; obtain ⟨hor1, hap1⟩ := hk1 _ _ _ hor hap; have hbel1 : Below w.heap.size w w1 := hbel.trans hb1; have hsz1 := hbel1.size; clear hos hor hap hbel hb1 hk1 hxc hyc) | (at_builtin; refine app _ rfl (.tmp 44) (.tmp 46) rfl w.heap.size _ _ _ rfl hor1 _ rfl (by omega) hsz1 ?_; intro v2 w2 ho2 hb2 hk2; rw [HC.out _ (by decide)] at ho2; obtain ⟨hos2, hap2⟩ := hk2 _ _ _ ho1 hap1.symm; have hbel2 : Below w.heap.size w w2 := hbel1.trans hb2; clear hor1 hap1 hbel1 hb2 hk2 ho1))
        go_roundw
        case rel => exact ⟨k + 1, _, by omega, by go_num, rfl, SN.out, hos2, ho2, hap2.symm, hbel2⟩
        case measure => simp [intOf]; omega
    · obtain rfl : k = n := by omega
      go_wp2
      go_ret2
      exact ⟨_, _, rfl, brow_of_owns hos hn, brow_of_owns hor hn, Kept.ofBelow hbel⟩
end Go.Proofs.YtlbcodjkcjjoeabDoor
