/- A drawn region whose last operation stores, its others walked by looking; the clock at which drawing begins. -/
import Derived.Test.YtmjfccdhjhkocaaPxL
import Derived.StillTailTactics
import Derived.BigQuiet
namespace Go.Proofs.Ytmjfccdhjhkocaa
open Go.RowKit
set_option linter.unusedVariables false
theorem still_of_quiet {P : Program} {ops : Array Oper} {w0 : World} {Q : Act → Prop} : ∀ (l : List Oper) (a : Act), wpQuiet P ops (fun w' => w' = w0) Q l a → wpStill P ops w0 Q l a
  | [], a, h => h
  | o :: rest, a, h => by
    unfold wpQuiet at h
    unfold wpStill
    split
    · rename_i hw
      rw [if_pos hw] at h
      obtain ⟨v, h1, h2⟩ := h
      have h3 := h1 w0 rfl
      have h4 := still_of_quiet rest _ h2
      unfold Oper.quietAt at h3
      unfold Oper.still
      generalize (execOp a.eval o).run P w0 = r at *
      cases r with
      | ok n w' =>
        cases n <;> simp only [Oper.quietUpon] at h3 <;> simp only [Oper.stillUpon]
        case value u =>
          obtain ⟨e1, e2⟩ := h3
          subst e2
          exact ⟨e1, h4⟩
        case skip =>
          obtain ⟨e1, e2⟩ := h3
          subst e2
          exact ⟨e1, h4⟩
        case enter f args =>
          exact ⟨h3.1, v, h3.2, h4⟩
      | _ => simp only [Oper.quietUpon] at h3
    · rename_i hw
      rw [if_neg hw] at h
      exact still_of_quiet rest _ h
theorem wp_still2 {P : Program} {id : Nat} {Q : Exit → Act → World → Prop} {a : Act} {w : World} {l : List Oper} (n : Nat) (hm : P.follows .mixedOrders = true) (hB : Region.lexTailB .any l.toArray n = true)
    (h : ∀ w1, w1 = w.drew → wpQuiet P l.toArray (fun w' => w' = w1) (fun a' => wpList P l.toArray Q (l.drop n) a' w1) (l.take n) a) : (Code.region id l.toArray true).wp P Q a w :=
  wp_region_still_tail n hm hB (still_of_quiet _ _ (h w.drew rfl))
variable {b : Nat} {p : Pic}
set_option maxRecDepth 100000 in
set_option maxHeartbeats 1000000 in
theorem turnMet_any (d : p.rg 4 < 144) (W : World) (h : PxAt W b p) :
    Calls Try.prog 50 #[.pointer (some ⟨b, 0, none⟩), .int .i64 80] W fun e w' => e = .returned (.int .i64 0) ∧ PxAt w' b ((p.setClk 80).setMet (p.met || p.rg 10 == p.rg 4)) ∧ Fr b W w' := by
  have d : decide (144 ≤ p.rg 4) = false := decide_eq_false (by omega)
  have kc := h.clk
  have fc := h.fz 8364
  have h1 : PxAt (W.setCell ⟨b, 8364, none⟩ (.int .i64 80)) b (p.setClk 80) := h.set 8364 _ (fun j _ => Pic.cellClk p 80 j)
  have F1 : Fr b W (W.setCell ⟨b, 8364, none⟩ (.int .i64 80)) := (Fr.refl b W).setCell
  have k4 : W.cell? ⟨b, 8356, none⟩ = some (.int .u8 (p.rg 4)) := h.reg 4 (by decide)
  have H1 : Hid _ := And.intro h1 F1
  clear h h1 F1
  go_enter Try.func50, Try.ntmps50
  go_wp2_with fail
  generalize World.setCell W _ _ = w0 at *
  refine wp_still2 20 (by kernel_rfl) (by kernel_rfl) ?_
  intro w1 hw1
  have h1 : PxAt w1 b (p.setClk 80) := by rw [hw1]; exact H1.out.1.up (Up.refl _).drew
  have F1 : Fr b W w1 := by rw [hw1]; exact H1.out.2.trans (Fr.ofUp (Up.refl _).drew)
  clear hw1 H1
  have k4' : w1.cell? ⟨b, 8356, none⟩ = some (.int .u8 (p.rg 4)) := h1.reg 4 (by decide)
  have k10' : w1.cell? ⟨b, 8362, none⟩ = some (.int .u8 (p.rg 10)) := h1.reg 10 (by decide)
  have km' : w1.cell? ⟨b, 8365, none⟩ = some (.bool p.met) := h1.metC
  have fm' : w1.frozen? ⟨b, 8365, none⟩ = false := h1.fz 8365
  have H2 : Hid (∀ v, PxAt (w1.setCell ⟨b, 8365, none⟩ (.bool v)) b ((p.setClk 80).setMet v) ∧ Fr b W (w1.setCell ⟨b, 8365, none⟩ (.bool v))) :=
    fun v => ⟨h1.set 8365 _ (fun j _ => Pic.cellMet _ _ j), F1.setCell⟩
  clear h1 F1
  simp only [List.take_succ_cons, List.take_zero, List.drop_succ_cons, List.drop_zero]
  generalize hm : p.met = M at *
  cases M
  · repeat (go_big_quiet_step (fail))
    refine wpQuiet_nil ?_
    go_wp2_with fail
    go_ret
    exact ⟨rfl, by rw [hm]; exact H2.out _⟩
  · repeat (go_big_quiet_step (fail))
    refine wpQuiet_nil ?_
    go_wp2_with fail
    go_ret
    exact ⟨rfl, by rw [hm]; exact H2.out _⟩
end Go.Proofs.Ytmjfccdhjhkocaa
