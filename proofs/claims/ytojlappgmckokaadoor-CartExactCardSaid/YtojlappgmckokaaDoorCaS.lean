/- Cart: a ROM that a box makes is taken. -/
import Derived.Test.YtojlappgmckokaaDoorCaR
namespace Go.Proofs.YtojlappgmckokaaDoor
open Go.Shelf Go.RowKit
set_option linter.unusedVariables false
set_option linter.unusedSimpArgs false
variable {w w' W : World} {g n : Nat} {f : Nat → Int}
theorem base_out {ty rc rm sd : Int} {k : Nat} (h : k < 260 ∨ 330 ≤ k) : baseF ty rc rm sd k = byteF k sd := by
  unfold baseF
  rw [putF_out _ _ (by omega), putF_out _ _ (by omega), putF_out _ _ (by omega), putF_out _ _ (by omega), putF_out _ _ (by omega), putF_out _ _ (by omega), putF_out _ _ (by omega), putF_out _ _ (by omega)]
theorem rom_out {ty rc rm sd : Int} {k : Nat} (h : k < 260 ∨ 334 ≤ k) : romF ty rc rm sd k = byteF k sd := by
  unfold romF
  rw [putF_out _ _ (by omega), base_out (by omega)]
theorem rom_base {ty rc rm sd : Int} {k : Nat} (h : k ≠ 333) : romF ty rc rm sd k = baseF ty rc rm sd k := by
  unfold romF
  rw [putF_out _ _ (by omega)]
theorem rom_mark {ty rc rm sd : Int} {i : Nat} (h : i < 48) : romF ty rc rm sd (260 + i) = markF i := by
  rw [rom_base (by omega)]
  unfold baseF
  rw [putF_out _ _ (by omega), putF_out _ _ (by omega), putF_out _ _ (by omega), putF_out _ _ (by omega), putF_out _ _ (by omega), putF_out _ _ (by omega), putF_out _ _ (by omega), putF_in _ _ (by omega) (by omega), Nat.add_sub_cancel_left]
theorem rom_323 (ty rc rm sd : Int) : romF ty rc rm sd 323 = 0 := by
  rw [rom_base (by omega)]
  unfold baseF
  rw [putF_out _ _ (by omega), putF_out _ _ (by omega), putF_out _ _ (by omega), putF_in _ _ (by omega) (by omega)]
theorem rom_327 (ty rc rm sd : Int) : romF ty rc rm sd 327 = ty % 256 := by
  rw [rom_base (by omega)]
  unfold baseF
  rw [putF_out _ _ (by omega), putF_out _ _ (by omega), putF_in _ _ (by omega) (by omega)]
theorem rom_328 (ty rc rm sd : Int) : romF ty rc rm sd 328 = rc % 256 := by
  rw [rom_base (by omega)]
  unfold baseF
  rw [putF_out _ _ (by omega), putF_in _ _ (by omega) (by omega)]
theorem rom_329 (ty rc rm sd : Int) : romF ty rc rm sd 329 = rm % 256 := by
  rw [rom_base (by omega)]
  unfold baseF
  rw [putF_in _ _ (by omega) (by omega)]
theorem rom_sum (ty rc rm sd : Int) : romF ty rc rm sd 333 = (231 - sig (romF ty rc rm sd) 25) % 256 := by
  have e : sig (romF ty rc rm sd) 25 = sig (baseF ty rc rm sd) 25 := sig_congr (fun j hj => rom_base (by omega))
  rw [e]
  unfold romF
  rw [putF_in _ _ (by omega) (by omega)]
/-- the row of a type is told by it -/
theorem rows_uniq {r s : Rw} (hr : r ∈ rowsT) (hs : s ∈ rowsT) (e : r.kind = s.kind) : r = s := by
  have key : ∀ i : Fin 14, ∀ j : Fin 14, (rowsT[i.val]'(i.isLt)).kind = (rowsT[j.val]'(j.isLt)).kind → i = j := by decide
  obtain ⟨i, hi, rfl⟩ := List.mem_iff_getElem.1 hr
  obtain ⟨j, hj, rfl⟩ := List.mem_iff_getElem.1 hs
  have := key ⟨i, hi⟩ ⟨j, hj⟩ e
  injection this with this
  subst this
  rfl
/-- what New makes of it -/
theorem fault_none {ty rc rm : Nat} {sd : Int} {R R0 : Rw} {b mk : Bool} (hR0 : R0 ∈ rowsT) (hk : R0.kind = ty) (h1 : ty ≤ 255) (h2 : rc ≤ 6) (h3 : rm ≤ 255) (hb : 2 * 2 ^ rc ≤ R0.banks) (hn : n = 32768 * 2 ^ rc) (hlo : R0.lo ≤ rm) (hhi : rm ≤ R0.hi)
    (hr : RowIs (romF ty rc rm sd 327).toNat R b) (hm : MarkIs (romF ty rc rm sd) mk) : R = R0 ∧ faultI mk (romF ty rc rm sd) R b n = 0 ∧ (romF ty rc rm sd 328).toNat = rc ∧ (romF ty rc rm sd 329).toNat = rm := by
  have e7 : (romF ty rc rm sd 327).toNat = ty := by rw [rom_327]; omega
  have e8 : romF ty rc rm sd 328 = (rc : Int) := by rw [rom_328]; omega
  have e9 : romF ty rc rm sd 329 = (rm : Int) := by rw [rom_329]; omega
  rw [e7] at hr
  obtain ⟨rfl, hR, hRk⟩ : b = true ∧ R ∈ rowsT ∧ R.kind = ty := by
    rcases hr with h | ⟨_, _, h⟩
    · exact h
    · exact absurd hk (h R0 hR0)
  have hRR : R = R0 := rows_uniq hR hR0 (by rw [hRk, hk])
  subst hRR
  obtain rfl : mk = true := by
    rcases hm with ⟨h, _⟩ | ⟨_, i, hi, hne⟩
    · exact h
    · exact absurd (rom_mark hi) hne
  refine ⟨rfl, ?_, by rw [e8]; rfl, by rw [e9]; rfl⟩
  have ht : takesB R rc n = true := by
    unfold takesB
    rw [decide_eq_true h2, decide_eq_true hb, decide_eq_true (show 2 * 2 ^ rc * 16384 = n by rw [hn]; omega)]
    rfl
  unfold faultI
  rw [if_neg (by decide), if_neg (by rw [rom_sum]; simp), if_neg (by rw [rom_323]; decide), if_neg (by decide), e8, Int.toNat_natCast, ht, if_neg (by decide), e9, if_neg (by omega)]
end Go.Proofs.YtojlappgmckokaaDoor
