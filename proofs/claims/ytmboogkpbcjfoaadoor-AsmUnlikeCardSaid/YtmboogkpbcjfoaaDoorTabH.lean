/- Numbers written to the base 16, over the translation. Conditions: at most four digits. -/
import Derived.Test.YtmboogkpbcjfoaaDoorTabB0
import Derived.Test.YtmboogkpbcjfoaaDoorTabQ
namespace Go.Proofs.YtmboogkpbcjfoaaDoor
open Go.RowKit
set_option linter.unusedVariables false
theorem info5 : (Tryd.prog.info? 5).map (fun i => (i.zero, i.size, i.bytes)) = some (some (.int .u8 0), 1, 1) := by kernel_rfl
theorem owns_bytes {w : World} {B : Nat} {v : Value} {l : List UInt8} (h : w.ownsRow B 5 1 v l.length (Lib.byteCells l)) (hl : l ≠ []) :
    ∃ g cap, v = .slice (some ⟨g, 0, none⟩) l.length cap ∧ l.length ≤ cap ∧ ∀ i, i < l.length → w.cell? ⟨g, i, none⟩ = some (.int .u8 ((l.getD i 0).toNat : Int)) := by
  have hc := @World.ownsRow.cells _ _ _ _ _ _ _ h
  rcases h.2 with ⟨_, h0⟩ | ⟨g, cap, cur, rfl, _, _, hcap, _⟩
  · exact absurd (List.length_eq_zero_iff.1 h0) hl
  · refine ⟨g, cap, rfl, hcap, fun i hi => ?_⟩
    have := hc (g := g) rfl i (.int .u8 ((l.getD i 0).toNat : Int)) (by simp [Lib.byteCells, List.getD_eq_getElem?_getD, List.getElem?_eq_getElem hi])
    have hadd : (⟨g, 0, none⟩ : Addr).add i = ⟨g, i, none⟩ := by unfold Addr.add; split <;> simp_all
    rw [hadd] at this
    exact this
set_option maxRecDepth 1000000 in
set_option maxHeartbeats 400000 in
theorem hex_any (v : Int) (d : Nat) (w : World) (h0 : -4611686018427387904 ≤ v) (h1 : v ≤ 4611686018427387904) (hd : d ≤ 4) :
    Calls Tryd.prog 12 #[.int .i64 v, .int .i64 d] w fun e w' => e = .returned (.string ⟨(hexL v d).toArray⟩) ∧ Below w.heap.size w w' := by
  obtain ⟨i0, hi, hz0, hz1, hz2⟩ := info_parts info5
  go_enter Tryd.func12, Tryd.ntmps12
  go_wp2
  go_loopw [5, 6] (fun t i wr => ∃ (j : Nat) (l : List UInt8), j ≤ d ∧ i = .int .i64 (4 * (j : Int) - 4) ∧ wr.ownsRow w.heap.size 5 1 t l.length (Lib.byteCells l) ∧ Below w.heap.size w wr ∧ Hid (l ++ hexDs v j = hexL v d) ∧ l.length + j ≤ 5 ∧ 0 < l.length) (fun _ i _ => (intOf i + 4).toNat)
  case atStart =>
    refine ⟨d, [36], Nat.le_refl _, by rw [show 4 * ((d : Int) - 1) = 4 * (d : Int) - 4 from by omega], ?_, (Below.refl _ w).alloc (Nat.le_refl _) _, rfl, by simp; omega, by simp⟩
    exact World.ownsRow_lit w #[.int .u8 36] 1 (Nat.le_refl _) (by decide) rfl
  case round =>
    obtain ⟨j, l, hj, rfl, hown, hbel, hl, hlen, hl0⟩ := hrel
    by_cases hj0 : j = 0
    · subst hj0
      have hne : l ≠ [] := by intro e; rw [e] at hl0; exact absurd hl0 (by simp)
      obtain ⟨g, cap, rfl, hcap, hcell⟩ := owns_bytes hown hne
      have HC : Hid (∀ i, i < l.length → wr.cell? ⟨g, i, none⟩ = some (.int .u8 ((l.getD i 0).toNat : Int))) := hcell
      clear hcell hown
      have hcv : (convert 52 9 (.slice (some ⟨g, 0, none⟩) l.length cap)).run Tryd.prog wr = .ok (.string ⟨l.toArray⟩) wr :=
        run_convert_bytes_back wr 52 9 5 ⟨g, 0, none⟩ cap l Tryd.underlying52 Tryd.underlying5 Tryd.underlying9 (fun i hi => by
          have h := HC.out i hi
          have hadd : (⟨g, 0, none⟩ : Addr).add i = ⟨g, i, none⟩ := by unfold Addr.add; split <;> simp_all
          rw [hadd, h]
          rw [List.getD_eq_getElem?_getD, List.getElem?_eq_getElem hi]
          rfl)
      go_wp2
      go_ret
      have := hl.out
      simp only [hexDs, List.append_nil] at this
      subst this
      exact ⟨rfl, hbel⟩
    · have hj4 : j = 1 ∨ j = 2 ∨ j = 3 ∨ j = 4 := by omega
      rcases hj4 with rfl | rfl | rfl | rfl
      · obtain ⟨m, hm⟩ : ∃ m : Nat, m = (v % 16).toNat := ⟨_, rfl⟩
        have hm16 : m < 16 := by omega
        have hb : bits .and .i64 v 15 = (m : Int) := by rw [i64_and15, hm]; omega
        obtain ⟨c, hc⟩ : ∃ c : UInt8, c = hexD m := ⟨_, rfl⟩
        have hdx : ∀ h, (⟨#[48, 49, 50, 51, 52, 53, 54, 55, 56, 57, 97, 98, 99, 100, 101, 102]⟩ : ByteArray)[m]'h = c := fun h => by rw [hc]; exact hexD_is m hm16 h
        have hx : Hid (hexDs v 1 = c :: hexDs v 0) := by show _ = _; rw [hexDs1, hc, hm]
        clear hm hc
        go_wp2_with (at_builtin; refine wpList_append_own _ rfl _ _ 52 rfl w.heap.size 5 i0 (.int .u8 0) 1 1 Tryd.underlying52 hi hz0 hz1 hz2 rfl (by decide) _ _ _ rfl (hown.alloc _) ⟨wr.heap.size, 0, none⟩ 1 1 [.int .u8 (c.toNat : Int)] rfl rfl ?c1 ?c2 ?c3 ?c4 ?c5 ?_)
        case c1 =>
          intro i u hu
          match i, hu with
          | 0, hu => simp at hu; subst hu; simp [Addr.add]
        case c2 => intro u hu; simp at hu; subst hu; rfl
        case c3 => unfold maxLen; omega
        case c4 => omega
        case c5 => have := hbel.size; simp; omega
        · intro v' w1 hown' hgrow _
          have hown2 : w1.ownsRow w.heap.size 5 1 v' (l ++ [c]).length (Lib.byteCells (l ++ [c])) := by
            rw [Lib.byteCells_append, List.length_append]
            exact hown'
          have hb1 : Below w.heap.size w w1 := (hbel.alloc hbel.size _).grown hgrow (by have := hbel.size; simp; omega) (fun k hk => (hown.lt k hk).1)
          clear hgrow hown hbel hown' hdx hb
          go_wp2
          go_roundw
          case rel =>
            refine ⟨0, l ++ [c], by omega, by first | rfl | go_num, hown2, hb1, ?_, by simp; omega, by simp⟩
            have := hl.out
            rw [hx.out] at this
            show _ = _
            rw [← this]; simp
          case measure => simp [intOf]
      · obtain ⟨m, hm⟩ : ∃ m : Nat, m = ((v / 16) % 16).toNat := ⟨_, rfl⟩
        have hm16 : m < 16 := by omega
        have hb : bits .and .i64 (v / 16) 15 = (m : Int) := by rw [i64_and15, hm]; omega
        obtain ⟨c, hc⟩ : ∃ c : UInt8, c = hexD m := ⟨_, rfl⟩
        have hdx : ∀ h, (⟨#[48, 49, 50, 51, 52, 53, 54, 55, 56, 57, 97, 98, 99, 100, 101, 102]⟩ : ByteArray)[m]'h = c := fun h => by rw [hc]; exact hexD_is m hm16 h
        have hx : Hid (hexDs v 2 = c :: hexDs v 1) := by show _ = _; rw [hexDs2, hc, hm]
        clear hm hc
        go_wp2_with (at_builtin; refine wpList_append_own _ rfl _ _ 52 rfl w.heap.size 5 i0 (.int .u8 0) 1 1 Tryd.underlying52 hi hz0 hz1 hz2 rfl (by decide) _ _ _ rfl (hown.alloc _) ⟨wr.heap.size, 0, none⟩ 1 1 [.int .u8 (c.toNat : Int)] rfl rfl ?c1 ?c2 ?c3 ?c4 ?c5 ?_)
        case c1 =>
          intro i u hu
          match i, hu with
          | 0, hu => simp at hu; subst hu; simp [Addr.add]
        case c2 => intro u hu; simp at hu; subst hu; rfl
        case c3 => unfold maxLen; omega
        case c4 => omega
        case c5 => have := hbel.size; simp; omega
        · intro v' w1 hown' hgrow _
          have hown2 : w1.ownsRow w.heap.size 5 1 v' (l ++ [c]).length (Lib.byteCells (l ++ [c])) := by
            rw [Lib.byteCells_append, List.length_append]
            exact hown'
          have hb1 : Below w.heap.size w w1 := (hbel.alloc hbel.size _).grown hgrow (by have := hbel.size; simp; omega) (fun k hk => (hown.lt k hk).1)
          clear hgrow hown hbel hown' hdx hb
          go_wp2
          go_roundw
          case rel =>
            refine ⟨1, l ++ [c], by omega, by first | rfl | go_num, hown2, hb1, ?_, by simp; omega, by simp⟩
            have := hl.out
            rw [hx.out] at this
            show _ = _
            rw [← this]; simp
          case measure => simp [intOf]
      · obtain ⟨m, hm⟩ : ∃ m : Nat, m = ((v / 256) % 16).toNat := ⟨_, rfl⟩
        have hm16 : m < 16 := by omega
        have hb : bits .and .i64 (v / 256) 15 = (m : Int) := by rw [i64_and15, hm]; omega
        obtain ⟨c, hc⟩ : ∃ c : UInt8, c = hexD m := ⟨_, rfl⟩
        have hdx : ∀ h, (⟨#[48, 49, 50, 51, 52, 53, 54, 55, 56, 57, 97, 98, 99, 100, 101, 102]⟩ : ByteArray)[m]'h = c := fun h => by rw [hc]; exact hexD_is m hm16 h
        have hx : Hid (hexDs v 3 = c :: hexDs v 2) := by show _ = _; rw [hexDs3, hc, hm]
        clear hm hc
        go_wp2_with (at_builtin; refine wpList_append_own _ rfl _ _ 52 rfl w.heap.size 5 i0 (.int .u8 0) 1 1 Tryd.underlying52 hi hz0 hz1 hz2 rfl (by decide) _ _ _ rfl (hown.alloc _) ⟨wr.heap.size, 0, none⟩ 1 1 [.int .u8 (c.toNat : Int)] rfl rfl ?c1 ?c2 ?c3 ?c4 ?c5 ?_)
        case c1 =>
          intro i u hu
          match i, hu with
          | 0, hu => simp at hu; subst hu; simp [Addr.add]
        case c2 => intro u hu; simp at hu; subst hu; rfl
        case c3 => unfold maxLen; omega
        case c4 => omega
        case c5 => have := hbel.size; simp; omega
        · intro v' w1 hown' hgrow _
          have hown2 : w1.ownsRow w.heap.size 5 1 v' (l ++ [c]).length (Lib.byteCells (l ++ [c])) := by
            rw [Lib.byteCells_append, List.length_append]
            exact hown'
          have hb1 : Below w.heap.size w w1 := (hbel.alloc hbel.size _).grown hgrow (by have := hbel.size; simp; omega) (fun k hk => (hown.lt k hk).1)
          clear hgrow hown hbel hown' hdx hb
          go_wp2
          go_roundw
          case rel =>
            refine ⟨2, l ++ [c], by omega, by first | rfl | go_num, hown2, hb1, ?_, by simp; omega, by simp⟩
            have := hl.out
            rw [hx.out] at this
            show _ = _
            rw [← this]; simp
          case measure => simp [intOf]
      · obtain ⟨m, hm⟩ : ∃ m : Nat, m = ((v / 4096) % 16).toNat := ⟨_, rfl⟩
        have hm16 : m < 16 := by omega
        have hb : bits .and .i64 (v / 4096) 15 = (m : Int) := by rw [i64_and15, hm]; omega
        obtain ⟨c, hc⟩ : ∃ c : UInt8, c = hexD m := ⟨_, rfl⟩
        have hdx : ∀ h, (⟨#[48, 49, 50, 51, 52, 53, 54, 55, 56, 57, 97, 98, 99, 100, 101, 102]⟩ : ByteArray)[m]'h = c := fun h => by rw [hc]; exact hexD_is m hm16 h
        have hx : Hid (hexDs v 4 = c :: hexDs v 3) := by show _ = _; rw [hexDs4, hc, hm]
        clear hm hc
        go_wp2_with (at_builtin; refine wpList_append_own _ rfl _ _ 52 rfl w.heap.size 5 i0 (.int .u8 0) 1 1 Tryd.underlying52 hi hz0 hz1 hz2 rfl (by decide) _ _ _ rfl (hown.alloc _) ⟨wr.heap.size, 0, none⟩ 1 1 [.int .u8 (c.toNat : Int)] rfl rfl ?c1 ?c2 ?c3 ?c4 ?c5 ?_)
        case c1 =>
          intro i u hu
          match i, hu with
          | 0, hu => simp at hu; subst hu; simp [Addr.add]
        case c2 => intro u hu; simp at hu; subst hu; rfl
        case c3 => unfold maxLen; omega
        case c4 => omega
        case c5 => have := hbel.size; simp; omega
        · intro v' w1 hown' hgrow _
          have hown2 : w1.ownsRow w.heap.size 5 1 v' (l ++ [c]).length (Lib.byteCells (l ++ [c])) := by
            rw [Lib.byteCells_append, List.length_append]
            exact hown'
          have hb1 : Below w.heap.size w w1 := (hbel.alloc hbel.size _).grown hgrow (by have := hbel.size; simp; omega) (fun k hk => (hown.lt k hk).1)
          clear hgrow hown hbel hown' hdx hb
          go_wp2
          go_roundw
          case rel =>
            refine ⟨3, l ++ [c], by omega, by first | rfl | go_num, hown2, hb1, ?_, by simp; omega, by simp⟩
            have := hl.out
            rw [hx.out] at this
            show _ = _
            rw [← this]; simp
          case measure => simp [intOf]
end Go.Proofs.YtmboogkpbcjfoaaDoor
