/- The walk of AsmUnlike. -/
import Derived.Test.YtmboogkpbcjfoaaDoorTabI
import Derived.Test.YtmboogkpbcjfoaaDoorTabN
import Derived.Deep.QuietTactic
import Derived.BigQuiet
namespace Go.Proofs.YtmboogkpbcjfoaaDoor
open Go.RowKit
set_option linter.unusedVariables false
theorem infoS : (Tryd.prog.info? 9).map (fun i => (i.zero, i.size, i.bytes)) = some (some (.string ⟨#[]⟩), 1, 16) := by kernel_rfl
/-- texts as cells -/
def strV (l : List (List UInt8)) : List Value := l.map fun s => Value.string ⟨s.toArray⟩
theorem owns_strs {w : World} {B : Nat} {v : Value} {l : List (List UInt8)} (h : w.ownsRow B 9 1 v l.length (strV l)) (hl : 0 < l.length) :
    ∃ g cap, v = .slice (some ⟨g, 0, none⟩) l.length cap ∧ g < w.heap.size ∧ ∀ i (hi : i < l.length), w.cell? ⟨g, i, none⟩ = some (.string ⟨l[i].toArray⟩) := by
  have hc := @World.ownsRow.cells _ _ _ _ _ _ _ h
  have hlt := h.lt
  rcases h.2 with ⟨_, h0⟩ | ⟨g, cap, cur, rfl, _, _, hcap, _⟩
  · omega
  · refine ⟨g, cap, rfl, (hlt g rfl).2, fun i hi => ?_⟩
    have := hc (g := g) rfl i (.string ⟨l[i].toArray⟩) (by simp [strV, List.getElem?_eq_getElem hi])
    have hadd : (⟨g, 0, none⟩ : Addr).add i = ⟨g, i, none⟩ := by unfold Addr.add; split <;> simp_all
    rw [hadd] at this
    exact this
theorem drewN_two (w : World) (a : Nat) : ∀ b, (w.drewN a).drewN b = w.drewN (a + b)
  | 0 => rfl
  | b + 1 => by
    show ((w.drewN a).drewN b).drew = (w.drewN (a + b)).drew
    rw [drewN_two w a b]
theorem cell_drewN (w : World) (a : Addr) : ∀ d, (w.drewN d).cell? a = w.cell? a
  | 0 => rfl
  | d + 1 => by rw [← cell_drewN w a d]; rfl
theorem size_drewN (w : World) : ∀ d, (w.drewN d).heap.size = w.heap.size
  | 0 => rfl
  | d + 1 => by rw [← size_drewN w d]; rfl
theorem ownsRow_drewN {w : World} {B : Nat} {e : TypeId} {k : Nat} {v : Value} {n : Nat} {xs : List Value} (h : w.ownsRow B e k v n xs) : ∀ d, (w.drewN d).ownsRow B e k v n xs
  | 0 => h
  | d + 1 => ownsRow_drewN h d
theorem below_drewN' {B : Nat} {a w : World} (h : Below B a w) : ∀ d, Below B a (w.drewN d)
  | 0 => h
  | d + 1 => (below_drewN' h d).drew
theorem infoT_of (c : Nat) (s : Bool) : infoT c s = (lookL c s).map fun o => withL o (letterL o) := rfl
set_option maxRecDepth 1000000 in
set_option maxHeartbeats 1000000 in
theorem unlike_walk (w : World) (L : Laid w) :
    Calls Tryd.prog 3 #[] w fun e w' => e = .returned (.bool true) ∧ Below w.heap.size w w' := by
  obtain ⟨i0, hi, hz0, hz1, hz2⟩ := info_parts infoS
  go_enter Tryd.func3, Tryd.ntmps3
  go_wp2
  go_loopw [1, 2] (fun l i wr => ∃ n : Nat, n ≤ 512 ∧ i = .int .i64 n ∧ wr.ownsRow w.heap.size 9 1 l (textsTo n).length (strV (textsTo n)) ∧ Below w.heap.size w wr) (fun _ i _ => 512 - (intOf i).toNat)
  case atStart => exact ⟨0, by omega, rfl, World.ownsRow_nil _ _ _ _, Below.refl _ _⟩
  case round =>
    obtain ⟨n, hn, rfl, hown, hbw⟩ := hrel
    have hlen := textsTo_len n
    by_cases hlt : n < 512
    · have L1 := L.kept (Kept.ofBelow hbw)
      have hd : decide ((n : Int) < 512) = true := decide_eq_true (by omega)
      obtain ⟨c, hc⟩ : ∃ c : Nat, c = n % 256 := ⟨_, rfl⟩
      have hc' : (n : Int) % 256 = (c : Int) := by omega
      have hc8 : c < 256 := by omega
      obtain ⟨s, hs⟩ : ∃ s : Bool, s = decide (256 ≤ n) := ⟨_, rfl⟩
      have hs' : decide ((256 : Int) ≤ (n : Int)) = s := by rw [hs]; exact decide_eq_decide.2 (by omega)
      have HT : Hid (infoT (n % 256) (decide (256 ≤ n)) = (lookL c s).map fun o => withL o (letterL o)) := by show _ = _; rw [hc, hs]; rfl
      have HS : Hid (lookL c s = none → s = false) := by
        intro e
        cases s
        · rfl
        · exact absurd e (second_some c hc8)
      have HS2 : Hid (s = decide (256 ≤ n)) := hs
      clear hc hs
      go_wp2_with fail
      refine (info_any c s _ hc8 L1).mono ?_
      rintro e w1 ⟨rfl, hb1⟩
      have hz1' := hb1.size
      have hbw1 : Below w.heap.size w w1 := hbw.trans (hb1.mono (by have := hbw.size; omega))
      have hown1 : w1.ownsRow w.heap.size 9 1 u1 (textsTo n).length (strV (textsTo n)) := hown.kept (row := none) ⟨hb1.os, hb1.tape, hb1.output, hb1.size, fun k hk _ => hb1.block k hk⟩ (by by_cases hh : u1.ownBlock = none <;> simp [hh])
      have hws : w.heap.size ≤ w1.heap.size := by have := hbw.size; omega
      clear hown hb1 hbw
      cases hl : lookL c s with
      | none =>
        have hs0 := HS.out hl
        subst hs0
        have HN : Hid (textsTo (n + 1) = textsTo n) := textsTo_none n (by rw [HT.out, hl]; rfl)
        clear hl
        simp only [infoV]
        go_wp2
        go_roundw
        case rel => exact ⟨n + 1, by omega, by go_num, by rw [HN.out]; exact hown1.alloc _, hbw1.alloc hws _⟩
        case measure => simp [intOf]; omega
      | some o =>
        obtain ⟨X, hX⟩ : ∃ X, X = withL o (letterL o) := ⟨_, rfl⟩
        have hin : infoT (n % 256) (decide (256 ≤ n)) = some X := by rw [HT.out, hl, hX]; rfl
        have HN : Hid (textsTo (n + 1) = textsTo n ++ [X]) := textsTo_some n X hin
        have HD : Hid (∀ Y ∈ textsTo n, Y ≠ X) := text_new n hlt X hin
        clear hl hin
        simp only [infoV]
        rw [← hX]
        clear hX
        obtain ⟨p, cap, rfl, hp⟩ : ∃ p cap, u1 = .slice p (textsTo n).length cap ∧ (0 < (textsTo n).length → ∃ g, p = some ⟨g, 0, none⟩ ∧ g < w1.heap.size ∧ ∀ i (hi : i < (textsTo n).length), w1.cell? ⟨g, i, none⟩ = some (.string ⟨(textsTo n)[i].toArray⟩)) := by
          rcases hown1.2 with ⟨e, h0⟩ | ⟨g, cap, cur, e, _⟩
          · exact ⟨none, 0, by rw [e, h0], fun h => absurd h (by omega)⟩
          · refine ⟨some ⟨g, 0, none⟩, cap, e, fun h => ?_⟩
            obtain ⟨g', cap', e', h1, h2⟩ := owns_strs hown1 h
            rw [e] at e'
            injection e' with e1 _ _
            injection e1 with e1
            injection e1 with e1 _ _
            subst e1
            exact ⟨g, rfl, h1, h2⟩
        have HP : Hid (0 < (textsTo n).length → ∃ g, p = some ⟨g, 0, none⟩ ∧ g < w1.heap.size ∧ ∀ i (hi : i < (textsTo n).length), w1.cell? ⟨g, i, none⟩ = some (.string ⟨(textsTo n)[i].toArray⟩)) := hp
        clear hp
        go_wp2_with fail
        go_loopw [5] (fun k wx => ∃ m d : Nat, m ≤ (textsTo n).length ∧ k = .int .i64 m ∧ wx = (w1.alloc (.cells #[.string ⟨X.toArray⟩, .int .i64 o.bytes, .int .i64 o.cycles, .int .i64 o.taken] 24)).drewN d) (fun k _ => (textsTo n).length - (intOf k).toNat)
        case atStart => exact ⟨0, 0, by omega, rfl, rfl⟩
        case round =>
          obtain ⟨m, d, hm, rfl, rfl⟩ := hrel
          by_cases hlm : m < (textsTo n).length
          · obtain ⟨g, rfl, hg, hcell⟩ := HP.out (by omega)
            have hcg := hcell m hlm
            obtain ⟨Y, hY⟩ : ∃ Y, Y = (textsTo n)[m] := ⟨_, rfl⟩
            rw [← hY] at hcg
            have hne : Y ≠ X := HD.out Y (by rw [hY]; exact List.getElem_mem _)
            have hcg2 : ∀ o, (w1.alloc o).cell? ⟨g, m, none⟩ = some (.string ⟨Y.toArray⟩) := fun o => (World.cell?_alloc_lt _ _ _ hg).trans hcg
            have hYX : (Y == X) = false := beq_eq_false_iff_ne.2 hne
            have hmi : (m : Int) < ((textsTo n).length : Int) := by omega
            clear hcell hcg hY
            go_wp2_with fail
            go_quiet (fail)
            go_wp2
            go_roundw
            case rel => exact ⟨m + 1, _, by omega, by go_num, rfl⟩
            case measure => simp [intOf]; omega
          · obtain rfl : m = (textsTo n).length := by omega
            have hownD : ((w1.alloc (.cells #[.string ⟨X.toArray⟩, .int .i64 o.bytes, .int .i64 o.cycles, .int .i64 o.taken] 24)).drewN d).ownsRow w.heap.size 9 1 (.slice p (textsTo n).length cap) (textsTo n).length (strV (textsTo n)) := ownsRow_drewN (hown1.alloc _) d
            have hbD : Below w.heap.size w ((w1.alloc (.cells #[.string ⟨X.toArray⟩, .int .i64 o.bytes, .int .i64 o.cycles, .int .i64 o.taken] 24)).drewN d) := below_drewN' (hbw1.alloc hws _) d
            have hx0 : ((w1.alloc (.cells #[.string ⟨X.toArray⟩, .int .i64 o.bytes, .int .i64 o.cycles, .int .i64 o.taken] 24)).drewN d).cell? ⟨w1.heap.size, 0, none⟩ = some (.string ⟨X.toArray⟩) := by rw [cell_drewN]; simp
            have hzD : ((w1.alloc (.cells #[.string ⟨X.toArray⟩, .int .i64 o.bytes, .int .i64 o.cycles, .int .i64 o.taken] 24)).drewN d).heap.size = w1.heap.size + 1 := by rw [size_drewN]; simp
            go_wp2_with (at_builtin; refine wpList_append_own _ rfl _ _ 22 rfl w.heap.size 9 i0 (.string ⟨#[]⟩) 1 16 Tryd.underlying22 hi hz0 hz1 hz2 rfl (by decide) _ _ _ rfl (hownD.alloc _) ⟨w1.heap.size + 1, 0, none⟩ 1 1 [.string ⟨X.toArray⟩] rfl rfl ?c1 ?c2 ?c3 ?c4 ?c5 ?_)
            case c1 =>
              intro j u hj
              match j, hj with
              | 0, hj =>
                simp at hj
                subst hj
                have hadd : (⟨w1.heap.size + 1, 0, none⟩ : Addr).add 0 = ⟨w1.heap.size + 1, 0, none⟩ := by simp [Addr.add]
                rw [hadd]
                exact World.cell?_alloc_at (#[Value.string ⟨X.toArray⟩]) 9 (w1.heap.size + 1) 0 (by rw [hzD])
            case c2 => intro u hu; simp at hu; subst hu; rfl
            case c3 => unfold maxLen; omega
            case c4 => omega
            case c5 => simp; omega
            · intro v' w2 hown' hgrow _
              have hown2 : w2.ownsRow w.heap.size 9 1 v' (textsTo (n + 1)).length (strV (textsTo (n + 1))) := by
                rw [HN.out, List.length_append]
                unfold strV
                rw [List.map_append]
                exact hown'
              have hb2 : Below w.heap.size w w2 := (hbD.alloc (by rw [hzD]; omega) _).grown hgrow (by simp; omega) (fun k hk => (hownD.lt k hk).1)
              clear hgrow hownD hbD hown' hx0 hzD
              go_wp2
              go_roundw
              case rel => exact ⟨n + 1, by omega, by go_num, hown2, hb2⟩
              case measure => simp [intOf]; omega
    · have h5 : (textsTo n).length = 500 := by rw [show n = 512 from by omega]; exact textsTo_all
      obtain ⟨p, cap, rfl⟩ : ∃ p cap, u1 = .slice p 500 cap := by
        rcases hown.2 with ⟨_, h0⟩ | ⟨g, cap, cur, e, _⟩
        · omega
        · exact ⟨_, cap, by rw [e, h5]⟩
      clear hown h5 hlen
      go_wp2
      go_ret
      exact ⟨rfl, hbw⟩
end Go.Proofs.YtmboogkpbcjfoaaDoor
