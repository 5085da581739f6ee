/- send, where the row is full. -/
import Derived.Test.YteomldlmdpphaaaDoorPoU
namespace Go.Proofs.YteomldlmdpphaaaDoor
open Go.RowKit
set_option linter.unusedVariables false
variable {b : Nat} {p : Po}
set_option maxRecDepth 100000 in
set_option maxHeartbeats 1000000 in
theorem send_many (o : p.Ok) (base : Nat) (hb : b < base) (v : Value) (zs : List Int) (hn : zs.length = 256) (W : World) (h : PoAt W b p v) (hS : SeAt W base v zs) (hbase : base ≤ W.heap.size) :
    Calls Tryd.prog 39 #[.pointer (some ⟨b, 0, none⟩)] W fun e w' => e = .returned (.tuple #[]) ∧ ∃ v', PoAt w' b p.sent v' ∧ SeAt w' base v' (zs.drop 1 ++ [p.se]) ∧ FrS b v.ownBlock W w' ∧ Moved W v.ownBlock v'.ownBlock := by
  obtain ⟨g, cap, rfl⟩ : ∃ g cap, v = .slice (some ⟨g, 0, none⟩) 256 cap := by
    rcases hS.2 with ⟨e, h0⟩ | ⟨g, cap, cur, e, _⟩
    · omega
    · exact ⟨g, cap, by rw [e, hn]⟩
  have HD : Hid (∀ W, SeAt W base (.slice (some ⟨g, 0, none⟩) 256 cap) zs → Calls Tryd.prog 71 #[.slice (some ⟨g, 0, none⟩) 256 cap, .int .i64 0, .int .i64 1] W fun e w' => e = .returned (.slice (some ⟨g, 0, none⟩) 255 cap) ∧ SeAt w' base (.slice (some ⟨g, 0, none⟩) 255 cap) (zs.drop 1) ∧ FrS g none W w') := fun W h => drop_any g cap base zs hn W h
  have hyl : (zs.drop 1).length = 255 := by simp [hn]
  generalize zs.drop 1 = ys at HD hyl ⊢
  have HDl : Hid (ys.length = 255) := hyl
  clear hyl
  have f12 := h.fz 12
  obtain ⟨k0, k1, k2, k3, k4, k5, k6, k7, k8, k9, k10, k11, k12⟩ := h.all
  have H : Hid (PoAt W b p (.slice (some ⟨g, 0, none⟩) 256 cap) ∧ SeAt W base (.slice (some ⟨g, 0, none⟩) 256 cap) zs) := ⟨h, hS⟩
  have lb := h.lt
  have hgb : g ≠ b := by have := (hS.lt g rfl).1; omega
  clear h hS
  go_enter Tryd.func39, Tryd.ntmps39
  go_wp2_with fail
  refine (HD.out _ H.out.2).mono ?_
  rintro e wd ⟨rfl, hSd, hFd⟩
  have Pd : PoAt wd b p (.slice (some ⟨g, 0, none⟩) 256 cap) := (hFd.block b lb (fun e => hgb e.symm) (by intro e; cases e)).trans H.out.1
  have f12d := Pd.fz 12
  have k12d := Pd.all.2.2.2.2.2.2.2.2.2.2.2.2
  have HDd : Hid _ := And.intro Pd (And.intro hSd hFd)
  clear hSd hFd Pd
  go_wp2_with fail
  generalize hWd : World.setCell _ _ _ = Wd
  have hd : PoAt Wd b p (.slice (some ⟨g, 0, none⟩) 255 cap) ∧ SeAt Wd base (.slice (some ⟨g, 0, none⟩) 255 cap) ys ∧ FrS b (some g) W Wd := by
    have F : Fr b wd Wd := by rw [← hWd]; exact (Fr.refl b wd).setCell
    refine ⟨by rw [← hWd]; exact HDd.out.1.set 12 _ rfl, HDd.out.2.1.fr F hb, ⟨F.os.trans HDd.out.2.2.os, F.output.trans HDd.out.2.2.output, Nat.le_trans HDd.out.2.2.size F.size, fun k hk hkb hkg => (F.block k (Nat.lt_of_lt_of_le hk HDd.out.2.2.size) hkb).trans (HDd.out.2.2.block k hk (fun e => hkg (by rw [e])) (by intro e; cases e))⟩⟩
  have hbd : base ≤ Wd.heap.size := Nat.le_trans hbase hd.2.2.size
  clear f12 f12d k12d k0 k1 k2 k3 k4 k5 k6 k7 k8 k9 k10 k11 k12
  have f12 := hd.1.fz 12
  obtain ⟨k0, k1, k2, k3, k4, k5, k6, k7, k8, k9, k10, k11, k12⟩ := hd.1.all
  have Hd : Hid _ := hd
  have lb := hd.1.lt
  clear hWd HDd hd HD
  go_region_law ((rw [if_pos (by rfl)]; refine wp_app _ (.tmp 20) (.tmp 25) rfl base (.slice (some ⟨g, 0, none⟩) 255 cap) ys.length _ (by simp [Act.eval]) (by exact World.ownsRow.alloc Hd.out.2.1 _) ⟨Wd.heap.size, 0, none⟩ p.se (by simp [Act.eval]) (by intro j u hu; match j, hu with | 0, hu => simp at hu; subst hu; simp [Addr.add]) (by have := HDl.out; omega) (by simp; omega) ?_; intro v' w1 hown' hgrow hwh
                  obtain ⟨pa', cp', rfl⟩ := own_slice hown'
                  have hM := mid1 hb hbd Hd.out.1 Hd.out.2.1 p.se hown' hgrow
                  have f12 := hM.1.fz 12
                  have k12 := hM.1.all.2.2.2.2.2.2.2.2.2.2.2.2
                  have HM : Hid _ := hM
                  have HMv : Hid (Moved Wd (some g) (Value.slice pa' (ys.length + 1) cp').ownBlock) := mvd hwh
                  clear hown' hgrow hM hwh))
  all_goals
    generalize hw2 : World.setCell _ _ _ = w2
    have P2 : PoAt w2 b p (.slice pa' (ys.length + 1) cp') ∧ SeAt w2 base (.slice pa' (ys.length + 1) cp') (ys ++ [p.se]) ∧ FrS b (some g) Wd w2 := by
      rw [← hw2]
      exact ⟨HM.out.1.set 12 _ rfl, HM.out.2.1.fr ((Fr.refl b _).setCell) hb, HM.out.2.2.trans (Moved.refl _ _) (FrS.ofFr ((Fr.refl b _).setCell))⟩
    have HP2 : Hid _ := P2
    have g2 := P2.1.fz 2
    have g3 := P2.1.fz 3
    have g11 := P2.1.fz 11
    obtain ⟨m0, m1, m2, m3, m4, m5, m6, m7, m8, m9, m10, m11, m12⟩ := P2.1.all
    have HA : Hid (∀ W, PoAt W b { p with se := 0, sh := 255, li := bits .andNot .u8 p.li 128 } (.slice pa' (ys.length + 1) cp') → Calls Tryd.prog 44 #[.pointer (some ⟨b, 0, none⟩), .int .i64 3] W fun e w' => e = .returned (.tuple #[]) ∧ PoAt w' b p.sent (.slice pa' (ys.length + 1) cp') ∧ Fr b W w') := fun W h => ask3_any _ W h
    clear hw2 HM f12 k12 P2
    go_wp2_with fail
    refine (HA.out _ (PoAt.set (p := { p with se := 0, sh := 255 }) (PoAt.set (p := { p with se := 0 }) (PoAt.set (p := p) HP2.out.1 11 _ rfl) 2 _ rfl) 3 _ rfl)).mono ?_
    rintro e w3 ⟨rfl, h3, hF⟩
    have H3 : Hid (PoAt w3 b p.sent (.slice pa' (ys.length + 1) cp') ∧ Fr b w2 w3) := ⟨h3, ((Fr.refl b w2).setCell.setCell.setCell).trans hF⟩
    clear h3 hF
    go_wp2_with fail
    go_end0
    exact ⟨rfl, _, H3.out.1, HP2.out.2.1.fr H3.out.2 hb, Hd.out.2.2.trans (Moved.refl _ _) (HP2.out.2.2.trans (Moved.refl _ _) (FrS.ofFr H3.out.2)), Moved.trans (Moved.refl W (some g)) Hd.out.2.2.size HMv.out⟩
end Go.Proofs.YteomldlmdpphaaaDoor
