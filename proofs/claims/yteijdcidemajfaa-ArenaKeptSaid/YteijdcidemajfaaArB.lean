/- Arena: one more at the end of a list. -/
import Derived.Test.YteijdcidemajfaaArA
namespace Go.Proofs.Yteijdcidemajfaa
open Go.RowKit
set_option linter.unusedVariables false
set_option maxRecDepth 100000 in
set_option maxHeartbeats 1000000 in
theorem insI_end {W : World} {v : Value} {n vb : Nat} {xs news : List Value} (own : W.ownsRow 0 3 1 v n xs) (hn : n ≤ 100000) (hl : news.length = 1 * 1) (hv : ∀ j u, news[j]? = some u → W.cell? ((⟨vb, 0, none⟩ : Addr).add j) = some u) (h1 : ∀ u ∈ news, u.oneCell' = true) :
    Calls Try.prog 63 #[v, .int .i64 n, .slice (some ⟨vb, 0, none⟩) 1 1] W fun e w' => ∃ v', e = .returned v' ∧ w'.ownsRow 0 3 1 v' (n + 1) (xs ++ news) ∧ W.grownBy w' v.ownBlock ∧ (v'.ownBlock = v.ownBlock ∨ v'.ownBlock = some W.heap.size) := by
  have hie : Try.prog.info? 3 = some Try.t3 := by kernel_rfl
  have HL : Hid (news.length = 1 * 1) := hl
  have HV : Hid (∀ j u, news[j]? = some u → W.cell? ((⟨vb, 0, none⟩ : Addr).add j) = some u) := hv
  have H1 : Hid (∀ u ∈ news, u.oneCell' = true) := h1
  have HO : Hid (W.ownsRow 0 3 1 v n xs) := own
  clear hl hv h1
  rcases own_cases own with ⟨rfl, rfl, rfl⟩ | ⟨g, cap, rfl, hc, hm, hg, _⟩
  · clear own
    go_enter Try.func63, Try.ntmps63
    go_wp2_with (at_builtin; refine wpList_append_own_at2 _ rfl _ _ 92 22 rfl 0 3 Try.t3 (.int .i64 0) 1 8 Try.underlying92 Try.underlying22 hie rfl rfl rfl rfl (by decide) _ _ _ rfl HO.out ⟨vb, 0, none⟩ 1 1 news rfl HL.out HV.out H1.out (by unfold maxLen; omega) (by omega) (Nat.zero_le _) ?_; intro v' w' hown hgrow hat; have HW : Hid (w'.ownsRow 0 3 1 v' (0 + 1) ([] ++ news) ∧ W.grownBy w' (Value.slice none 0 0).ownBlock ∧ (v'.ownBlock = (Value.slice none 0 0).ownBlock ∨ v'.ownBlock = some W.heap.size)) := ⟨hown, hgrow, hat⟩; clear hown hgrow hat)
    go_ret
    exact ⟨_, rfl, HW.out⟩
  · clear own
    have hm2 : cap ≤ 9223372036854775807 := by unfold maxLen at hm; omega
    have HG : Hid (g < W.heap.size) := hg
    clear hm hg
    go_enter Try.func63, Try.ntmps63
    go_wp2_with (at_builtin; refine wpList_append_own_at2 _ rfl _ _ 92 22 rfl 0 3 Try.t3 (.int .i64 0) 1 8 Try.underlying92 Try.underlying22 hie rfl rfl rfl rfl (by decide) _ _ _ rfl HO.out ⟨vb, 0, none⟩ 1 1 news rfl HL.out HV.out H1.out (by unfold maxLen; omega) (by omega) (Nat.zero_le _) ?_; intro v' w' hown hgrow hat; have HW : Hid (w'.ownsRow 0 3 1 v' (n + 1) (xs ++ news) ∧ W.grownBy w' (Value.slice (some ⟨g, 0, none⟩) n cap).ownBlock ∧ (v'.ownBlock = (Value.slice (some ⟨g, 0, none⟩) n cap).ownBlock ∨ v'.ownBlock = some W.heap.size)) := ⟨hown, hgrow, hat⟩; clear hown hgrow hat)
    all_goals
      go_ret
      exact ⟨_, rfl, HW.out⟩
set_option maxRecDepth 100000 in
set_option maxHeartbeats 1000000 in
theorem insL_end {W : World} {v : Value} {n vb : Nat} {xs news : List Value} (own : W.ownsRow 0 104 4 v n xs) (hn : n ≤ 100000) (hl : news.length = 1 * 4) (hv : ∀ j u, news[j]? = some u → W.cell? ((⟨vb, 0, none⟩ : Addr).add j) = some u) (h1 : ∀ u ∈ news, u.oneCell' = true) :
    Calls Try.prog 67 #[v, .int .i64 n, .slice (some ⟨vb, 0, none⟩) 1 1] W fun e w' => ∃ v', e = .returned v' ∧ w'.ownsRow 0 104 4 v' (n + 1) (xs ++ news) ∧ W.grownBy w' v.ownBlock ∧ (v'.ownBlock = v.ownBlock ∨ v'.ownBlock = some W.heap.size) := by
  have hie : Try.prog.info? 104 = some Try.t104 := by kernel_rfl
  have HL : Hid (news.length = 1 * 4) := hl
  have HV : Hid (∀ j u, news[j]? = some u → W.cell? ((⟨vb, 0, none⟩ : Addr).add j) = some u) := hv
  have H1 : Hid (∀ u ∈ news, u.oneCell' = true) := h1
  have HO : Hid (W.ownsRow 0 104 4 v n xs) := own
  clear hl hv h1
  rcases own_cases own with ⟨rfl, rfl, rfl⟩ | ⟨g, cap, rfl, hc, hm, hg, _⟩
  · clear own
    go_enter Try.func67, Try.ntmps67
    go_wp2_with (at_builtin; refine wpList_append_own_at2 _ rfl _ _ 100 99 rfl 0 104 Try.t104 (.agg #[.int .i64 0, .int .i64 0, .int .i64 0, .slice none 0 0]) 4 48 Try.underlying100 Try.underlying99 hie rfl rfl rfl rfl (by decide) _ _ _ rfl HO.out ⟨vb, 0, none⟩ 1 1 news rfl HL.out HV.out H1.out (by unfold maxLen; omega) (by omega) (Nat.zero_le _) ?_; intro v' w' hown hgrow hat; have HW : Hid (w'.ownsRow 0 104 4 v' (0 + 1) ([] ++ news) ∧ W.grownBy w' (Value.slice none 0 0).ownBlock ∧ (v'.ownBlock = (Value.slice none 0 0).ownBlock ∨ v'.ownBlock = some W.heap.size)) := ⟨hown, hgrow, hat⟩; clear hown hgrow hat)
    go_ret
    exact ⟨_, rfl, HW.out⟩
  · clear own
    have hm2 : cap ≤ 9223372036854775807 := by unfold maxLen at hm; omega
    have HG : Hid (g < W.heap.size) := hg
    clear hm hg
    go_enter Try.func67, Try.ntmps67
    go_wp2_with (at_builtin; refine wpList_append_own_at2 _ rfl _ _ 100 99 rfl 0 104 Try.t104 (.agg #[.int .i64 0, .int .i64 0, .int .i64 0, .slice none 0 0]) 4 48 Try.underlying100 Try.underlying99 hie rfl rfl rfl rfl (by decide) _ _ _ rfl HO.out ⟨vb, 0, none⟩ 1 1 news rfl HL.out HV.out H1.out (by unfold maxLen; omega) (by omega) (Nat.zero_le _) ?_; intro v' w' hown hgrow hat; have HW : Hid (w'.ownsRow 0 104 4 v' (n + 1) (xs ++ news) ∧ W.grownBy w' (Value.slice (some ⟨g, 0, none⟩) n cap).ownBlock ∧ (v'.ownBlock = (Value.slice (some ⟨g, 0, none⟩) n cap).ownBlock ∨ v'.ownBlock = some W.heap.size)) := ⟨hown, hgrow, hat⟩; clear hown hgrow hat)
    all_goals
      go_ret
      exact ⟨_, rfl, HW.out⟩
end Go.Proofs.Yteijdcidemajfaa
