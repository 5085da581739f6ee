/- Tick, over the translation. -/
import Derived.Test.YtdkibohpdkdooaaGreatDoorCpYTa
import Derived.Test.YtdkibohpdkdooaaGreatDoorCpYTb
import Derived.Test.YtdkibohpdkdooaaGreatDoorCpYTc
import Derived.Test.YtdkibohpdkdooaaGreatDoorCpYFa
import Derived.Test.YtdkibohpdkdooaaGreatDoorCpYFb
import Derived.Test.YtdkibohpdkdooaaGreatDoorCpYFc
namespace Go.Proofs.YtdkibohpdkdooaaGreatDoor
open Go.RowKit
set_option linter.unusedVariables false
theorem finish_any (r : Row) (l : Int) (b : Nat) (s : St) (w : World) (h : Cp w b s) (o : s.Ok) (hL : Lb b w) (ha : oneBit s.asked) (hr : r.sure ≤ 2) (hrd : r.d ≤ 32) (hl : 0 ≤ l ∧ l ≤ 31) :
    Calls Tryz.prog 28 #[.pointer (some ⟨b, 0, none⟩), .agg r.cells, .int .u8 l] w fun e w' => e = .returned (.tuple #[]) ∧ Cp w' b (s.finish r l) ∧ Fr b w w' := by
  cases hT : s.takes r <;> cases hA : s.due
  · by_cases hE : ((s.go ((s.behindFirst + r.further) % 65536))).state = 1
    · by_cases hl0 : l = 0
      · exact finish_Fnb r l b s w h o hL ha hr hrd hl hT hA hE hl0
      · exact finish_Fnc r l b s w h o hL ha hr hrd hl hT hA hE hl0
    · exact finish_Fna r l b s w h o hL ha hr hrd hl hT hA hE
  · cases hD : ((s.go ((s.behindFirst + r.further) % 65536))).due
    · by_cases hE : ((s.go ((s.behindFirst + r.further) % 65536))).state = 1
      · by_cases hl0 : l = 0
        · exact finish_Fxb r l b s w h o hL ha hr hrd hl hT hA hD hE hl0
        · exact finish_Fxc r l b s w h o hL ha hr hrd hl hT hA hD hE hl0
      · exact finish_Fxa r l b s w h o hL ha hr hrd hl hT hA hD hE
    · by_cases hE : ((s.go ((s.behindFirst + r.further) % 65536))).state = 1
      · by_cases hl0 : l = 0
        · exact finish_Fyb r l b s w h o hL ha hr hrd hl hT hA hD hE hl0
        · exact finish_Fyc r l b s w h o hL ha hr hrd hl hT hA hD hE hl0
      · exact finish_Fya r l b s w h o hL ha hr hrd hl hT hA hD hE
  · by_cases hE : ((doP r.d (s.go ((s.behindFirst + r.further) % 65536)))).state = 1
    · by_cases hl0 : l = 0
      · exact finish_Tnb r l b s w h o hL ha hr hrd hl hT hA hE hl0
      · exact finish_Tnc r l b s w h o hL ha hr hrd hl hT hA hE hl0
    · exact finish_Tna r l b s w h o hL ha hr hrd hl hT hA hE
  · cases hD : ((doP r.d (s.go ((s.behindFirst + r.further) % 65536)))).due
    · by_cases hE : ((doP r.d (s.go ((s.behindFirst + r.further) % 65536)))).state = 1
      · by_cases hl0 : l = 0
        · exact finish_Txb r l b s w h o hL ha hr hrd hl hT hA hD hE hl0
        · exact finish_Txc r l b s w h o hL ha hr hrd hl hT hA hD hE hl0
      · exact finish_Txa r l b s w h o hL ha hr hrd hl hT hA hD hE
    · by_cases hE : ((doP r.d (s.go ((s.behindFirst + r.further) % 65536)))).state = 1
      · by_cases hl0 : l = 0
        · exact finish_Tyb r l b s w h o hL ha hr hrd hl hT hA hD hE hl0
        · exact finish_Tyc r l b s w h o hL ha hr hrd hl hT hA hD hE hl0
      · exact finish_Tya r l b s w h o hL ha hr hrd hl hT hA hD hE
theorem doP32 (s : St) : (doP 32 s).phase = 0 ∧ (doP 32 s).many = 0 ∧ (doP 32 s).done = 0 ∧ (doP 32 s).asked = 0 := ⟨rfl, rfl, rfl, rfl⟩
theorem look_inv (s : St) (v : s.Inv) (l : Int) : (s.look l).Inv := by
  unfold St.look
  split
  · exact v
  split
  · exact { ok := { v.ok with state := (show (0 : Int) ≤ 0 ∧ (0 : Int) ≤ 3 by decide), phase := (show (0 : Int) ≤ 2 ∧ (2 : Int) ≤ 2 by decide), code := (show (0 : Int) ≤ 0 ∧ (0 : Int) ≤ 255 by decide), done := (show (0 : Int) ≤ 0 ∧ (0 : Int) ≤ 5 by decide), rd := fun _ => (show (0 : Int) ≤ 0 ∧ (0 : Int) ≤ 255 by decide), many := (show (0 : Int) ≤ 0 ∧ (0 : Int) ≤ 3 by decide), asked := (show (0 : Int) ≤ 0 ∧ (0 : Int) ≤ 31 by decide) }, md := Int.le_refl _, ask := Or.inl rfl, live := Or.inr (by show dispRow.act 0 ≠ 0; decide) }
  · exact { ok := { v.ok with state := (show (0 : Int) ≤ 0 ∧ (0 : Int) ≤ 3 by decide) }, md := v.md, ask := v.ask, live := v.live }
theorem does_ok (r : Row) (hr : r.d ≤ 32) (s : St) (o : s.Ok) : (s.does r).Ok := by
  unfold St.does
  split
  · exact doP_ok r.d hr s o
  · exact o
theorem dues_ok (s : St) (o : s.Ok) (a : Bool) : (s.dues a).Ok := by
  unfold St.dues
  split
  · exact { o with }
  · exact o
theorem twices_inv (s : St) (o : s.Ok) (l : Int) : (s.twices l).Inv :=
  { ok := { o with phase := (show (0 : Int) ≤ 0 ∧ (0 : Int) ≤ 2 by decide), code := (show (0 : Int) ≤ 0 ∧ (0 : Int) ≤ 255 by decide), done := (show (0 : Int) ≤ 0 ∧ (0 : Int) ≤ 5 by decide), rd := fun _ => (show (0 : Int) ≤ 0 ∧ (0 : Int) ≤ 255 by decide), many := (show (0 : Int) ≤ 0 ∧ (0 : Int) ≤ 3 by decide), asked := (show (0 : Int) ≤ 0 ∧ (0 : Int) ≤ 31 by decide) }, md := Int.le_refl _, ask := Or.inl rfl, live := Or.inl rfl }
theorem finish_inv (r : Row) (hr : r.d ≤ 32) (s : St) (o : s.Ok) (l : Int) : (s.finish r l).Inv := by
  unfold St.finish
  exact look_inv _ (twices_inv _ (dues_ok _ (does_ok r hr _ (o.go _ (by omega))) _) l) l
theorem row_disp_d (s : St) (h : s.phase = 2) : s.row.d = 32 := by unfold St.row; rw [if_pos h]; rfl
theorem tick1_inv (s : St) (o : s.Ok) (md : s.many ≤ s.done) (ask : oneBit s.asked) (l : Int) : (s.tick1 l).1.Inv := by
  unfold St.tick1
  by_cases ho : s.over s.row = true
  · rw [if_pos ho]
    show (if s.phase = 2 then doP s.row.d s else s.finish s.row l).Inv
    split
    · rename_i hp
      rw [row_disp_d s hp]
      exact { ok := doP_ok 32 (by decide) s o, md := Int.le_refl _, ask := Or.inl rfl, live := Or.inl rfl }
    · exact finish_inv _ (row_d s) s o l
  · rw [if_neg ho]
    refine { ok := o, md := md, ask := ask, live := Or.inr ?_ }
    intro hz
    apply ho
    unfold St.over
    rw [show s.row.act s.done = 0 from hz]
    rfl
theorem tick_inv (s : St) (v : s.Inv) (d l : Int) : (s.tick d l).1.Inv := by
  unfold St.tick
  by_cases hs : s.state = 0
  · rw [if_neg (by simp [hs])]
    obtain ⟨h1, h2, h3, h4, h5⟩ := act_ok (d % 256) (l % 32) s v hs (by omega)
    exact tick1_inv _ h1 h2 h3 _
  · rw [if_pos hs]
    exact look_inv s v _
end Go.Proofs.YtdkibohpdkdooaaGreatDoor
