/- The ports' buttons: key bits. -/
import Derived.Test.YteomldlmdpphaaaDoorPoB
namespace Go.Proofs.YteomldlmdpphaaaDoor
open Go.RowKit
set_option linter.unusedVariables false
variable {b : Nat} {p : Po}
def Po.keys (p : Po) : Int := if p.ro = 48 then 15 else if p.ro = 32 then 15 - p.bu % 16 else if p.ro = 16 then 15 - p.bu / 16 else 15 - bits .or .u8 (p.bu % 16) (p.bu / 16)
theorem kf0 : ∀ x : Int, 0 ≤ x → x ≤ 255 → bits .andNot .u8 15 (bits .or .u8 (bits .or .u8 0 (x % 16)) (x / 16)) = 15 - bits .or .u8 (x % 16) (x / 16) := byteAll (by decide +kernel)
theorem kf1 : ∀ x : Int, 0 ≤ x → x ≤ 255 → bits .andNot .u8 15 (bits .or .u8 0 (x / 16)) = 15 - x / 16 := byteAll (by decide +kernel)
theorem kf2 : ∀ x : Int, 0 ≤ x → x ≤ 255 → bits .andNot .u8 15 (bits .or .u8 0 (x % 16)) = 15 - x % 16 := byteAll (by decide +kernel)
theorem kf3 : bits .andNot .u8 15 0 = 15 := by decide
theorem kor : ∀ x : Int, 0 ≤ x → x ≤ 255 → 0 ≤ bits .or .u8 (x % 16) (x / 16) ∧ bits .or .u8 (x % 16) (x / 16) ≤ 15 := byteAll (by decide +kernel)
theorem Po.keys_b {p : Po} (o : p.Ok) : 0 ≤ p.keys ∧ p.keys ≤ 15 := by
  have b0 := o.bu.1
  have b1 := o.bu.2
  have k := kor p.bu b0 b1
  unfold Po.keys
  repeat' split
  all_goals omega
set_option maxRecDepth 100000 in
theorem keys_same (o : p.Ok) (v : Value) (W : World) (h : PoAt W b p v) : Calls Tryd.prog 72 #[.pointer (some ⟨b, 0, none⟩)] W fun e w' => e = .returned (.int .u8 p.keys) ∧ w' = W := by
  have b0 := o.bu.1
  have b1 := o.bu.2
  have a0 : (bits .and .u8 0 16 == 0) = true := by decide
  have a1 : (bits .and .u8 16 16 == 0) = false := by decide
  have a2 : (bits .and .u8 32 16 == 0) = true := by decide
  have a3 : (bits .and .u8 48 16 == 0) = false := by decide
  have s0 : (bits .and .u8 0 32 == 0) = true := by decide
  have s1 : (bits .and .u8 16 32 == 0) = true := by decide
  have s2 : (bits .and .u8 32 32 == 0) = false := by decide
  have s3 : (bits .and .u8 48 32 == 0) = false := by decide
  obtain ⟨c0, c1, c2, c3, c4, c5, c6, c7, c8, c9, c10, c11, c12⟩ := h.all
  have H : Hid (PoAt W b p v) := h
  clear h
  rcases o.ro with e | e | e | e
  all_goals
    unfold Po.keys
    rw [e] at c1 ⊢
    clear e
    go_enter Tryd.func72, Tryd.ntmps72
    go_wp2
    go_ret
    refine ⟨ret1 ?_, rfl⟩
    first
      | exact kf0 p.bu b0 b1
      | exact kf1 p.bu b0 b1
      | exact kf2 p.bu b0 b1
      | exact kf3
theorem keys_any (o : p.Ok) : Does 72 [] b p (.int .u8 p.keys) p := fun v W h => (keys_same o v W h).mono fun e w' ⟨h1, h2⟩ => by subst h2; exact ⟨h1, h, Fr.refl _ _⟩
end Go.Proofs.YteomldlmdpphaaaDoor
