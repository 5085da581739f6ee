/- Bounds of what is reckoned. -/
import Derived.Test.YtdkibohpdkdooaaGreatDoorCpS
namespace Go.Proofs.YtdkibohpdkdooaaGreatDoor
open Go.RowKit
theorem cases8' {n : Int} (h : ¬ (n < 0 ∨ 8 ≤ n)) : n = 0 ∨ n = 1 ∨ n = 2 ∨ n = 3 ∨ n = 4 ∨ n = 5 ∨ n = 6 ∨ n = 7 := by omega
theorem reR_b (n a : Int) (h0 : 0 ≤ a) (h1 : a ≤ 255) : 0 ≤ reR n a ∧ reR n a ≤ 255 := by
  unfold reR
  split
  · exact ⟨h0, h1⟩
  · rename_i h
    rcases cases8' h with rfl | rfl | rfl | rfl | rfl | rfl | rfl | rfl <;> simp <;> omega
theorem seR_b (n a : Int) (h0 : 0 ≤ a) (h1 : a ≤ 255) : 0 ≤ seR n a ∧ seR n a ≤ 255 := by
  unfold seR
  split
  · exact ⟨h0, h1⟩
  · rename_i h
    rcases cases8' h with rfl | rfl | rfl | rfl | rfl | rfl | rfl | rfl <;> simp <;> omega
theorem biF_b (n a f : Int) (h0 : 0 ≤ f) (h1 : f ≤ 255) : 0 ≤ biF n a f ∧ biF n a f ≤ 255 := by
  unfold biF
  split
  · omega
  · exact ⟨flg_lo _ _ _ _, flg_hi' _ _ _ _⟩
theorem altR_b (c v f : Int) (h0 : 0 ≤ v) (h1 : v ≤ 255) : 0 ≤ altR c v f ∧ altR c v f ≤ 255 := by
  unfold altR
  repeat' split
  · exact ⟨shR_lo _ _ _ h0, shR_hi _ _ _ h0 h1⟩
  · exact ⟨h0, h1⟩
  · exact reR_b _ _ h0 h1
  · exact seR_b _ _ h0 h1
theorem altF_b (c v f : Int) (h0 : 0 ≤ f) (h1 : f ≤ 255) : 0 ≤ altF c v f ∧ altF c v f ≤ 255 := by
  unfold altF
  repeat' split
  · exact ⟨shF_lo _ _ _ h0, shF_hi _ _ _ h1⟩
  · exact biF_b _ _ _ h0 h1
  · exact ⟨h0, h1⟩
theorem data_b (s : St) (o : s.Ok) (k : Nat) : 0 ≤ s.data k ∧ s.data k ≤ 255 := by
  have h2 := o.sp
  have h4 := o.pushed s.p
  have h5 := behind_b s o
  unfold St.data
  split
  · exact o.r 7
  split
  · exact o.value _
  split
  · exact o.latest
  split
  · exact steppedR_ok o
  split
  · exact altR_b _ _ _ (o.value _).1 (o.value _).2
  repeat' split
  all_goals omega
theorem cases33 {k : Nat} (h : k ≤ 32) : k = 0 ∨ k = 1 ∨ k = 2 ∨ k = 3 ∨ k = 4 ∨ k = 5 ∨ k = 6 ∨ k = 7 ∨ k = 8 ∨ k = 9 ∨ k = 10 ∨ k = 11 ∨ k = 12 ∨ k = 13 ∨ k = 14 ∨ k = 15 ∨ k = 16 ∨ k = 17 ∨ k = 18 ∨ k = 19 ∨ k = 20 ∨ k = 21 ∨ k = 22 ∨ k = 23 ∨ k = 24 ∨ k = 25 ∨ k = 26 ∨ k = 27 ∨ k = 28 ∨ k = 29 ∨ k = 30 ∨ k = 31 ∨ k = 32 := by omega
theorem St.Ok.hlAdd {s : St} (o : s.Ok) (d : Int) : (s.hlAdd d).Ok := o.setPair 2 _ (by omega)
/-- what instructions do leaves a processor within its bounds -/
theorem doP_ok (d : Nat) (hd : d ≤ 32) (s : St) (o : s.Ok) : (doP d s).Ok := by
  have hl := o.latest
  have hw := o.word
  have hp := o.pair 2
  have hq := o.pair s.p
  rcases cases33 hd with rfl | rfl | rfl | rfl | rfl | rfl | rfl | rfl | rfl | rfl | rfl | rfl | rfl | rfl | rfl | rfl | rfl | rfl | rfl | rfl | rfl | rfl | rfl | rfl | rfl | rfl | rfl | rfl | rfl | rfl | rfl | rfl | rfl
  · exact o
  · exact { o with state := (show (0 : Int) ≤ 1 ∧ (1 : Int) ≤ 3 by decide) }
  · exact { o with state := (show (0 : Int) ≤ 2 ∧ (2 : Int) ≤ 3 by decide) }
  · exact { o with state := (show (0 : Int) ≤ 3 ∧ (3 : Int) ≤ 3 by decide) }
  · show s.ei.Ok
    unfold St.ei
    split
    · exact o
    · exact { o with }
  · exact { o with }
  · exact o.go _ hw
  · exact o.go _ hp
  · exact o.go _ (by omega)
  · exact o.spDown.go _ hw
  · exact o.spDown.go _ (by have := o.y; omega)
  · exact o.spUp.go _ hw
  · exact { o.spUp.go _ hw with }
  · exact o.spDown
  · exact o.spUp.setPushed _ _ hw
  · exact o.setByte _ _ (o.value _)
  · exact o.setReg _ _ hl
  · exact o.hlAdd 1
  · exact o.hlAdd (-1)
  · exact (o.setReg 7 _ hl).hlAdd 1
  · exact (o.setReg 7 _ hl).hlAdd (-1)
  · exact o.setPair _ _ hw
  · exact { o with sp := hp }
  · exact o.setPair _ _ (by omega)
  · exact o.setPair _ _ (by omega)
  · exact (o.setPair 2 _ (by unfold awR; omega)).setReg 6 _ ⟨flg_lo _ _ _ _, flg_hi' _ _ _ _⟩
  · exact { o with sp := ⟨by show 0 ≤ ofR _ _; unfold ofR; omega, by show ofR _ _ ≤ 65535; unfold ofR; omega⟩, r := upd_ok o.r 6 _ ⟨flg_lo _ _ _ _, flg_hi' _ _ _ _⟩ }
  · exact (o.setPair 2 _ (by unfold ofR; omega)).setReg 6 _ ⟨flg_lo _ _ _ _, flg_hi' _ _ _ _⟩
  · exact { o with r := upd_ok (upd_ok o.r 7 _ ⟨arR_lo _ _ _ _ (o.r 7).1, arR_hi _ _ _ _ (o.r 7).2⟩) 6 _ ⟨arF_lo _ _ _ _ (o.r 6).1, arF_hi _ _ _ _ (o.r 6).2⟩ }
  · exact { o with r := upd_ok (upd_ok o.r 7 _ ⟨tuR_lo _ _ _ (o.r 7).1 (o.r 7).2, tuR_hi _ _ _ (o.r 7).1 (o.r 7).2⟩) 6 _ ⟨tuF_lo _ _ _ (o.r 6).1, tuF_hi _ _ _ (o.r 6).2⟩ }
  · exact (o.setByte _ _ (steppedR_ok o)).setReg 6 _ ⟨stF_lo _ _ _ (o.r 6).1, stF_hi _ _ _ (o.r 6).2⟩
  · exact (o.setByte _ _ (altR_b _ _ _ (o.value _).1 (o.value _).2)).setReg 6 _ (altF_b _ _ _ (o.r 6).1 (o.r 6).2)
  · have ha := o.asked
    have hs := o.sp
    exact { r := o.r, sp := ⟨by show 0 ≤ (s.sp - 2) % 65536; omega, by show (s.sp - 2) % 65536 ≤ 65535; omega⟩, pc := by show 0 ≤ handP s.asked ∧ handP s.asked ≤ 65535; unfold handP; (repeat' split) <;> omega, state := o.state, phase := (show (0 : Int) ≤ 0 ∧ (0 : Int) ≤ 2 by decide), code := (show (0 : Int) ≤ 0 ∧ (0 : Int) ≤ 255 by decide), done := (show (0 : Int) ≤ 0 ∧ (0 : Int) ≤ 5 by decide), rd := fun _ => (show (0 : Int) ≤ 0 ∧ (0 : Int) ≤ 255 by decide), many := (show (0 : Int) ≤ 0 ∧ (0 : Int) ≤ 3 by decide), asked := (show (0 : Int) ≤ 0 ∧ (0 : Int) ≤ 31 by decide) }
end Go.Proofs.YtdkibohpdkdooaaGreatDoor
