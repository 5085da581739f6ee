import Derived.Test.YtmjfccdhjhkocaaMgH
/- PpuCut: a state that is loaded is the picture that it was taken from. -/
namespace Go.Proofs.Ytmjfccdhjhkocaa
open Go.RowKit
set_option linter.unusedVariables false
set_option linter.unusedSectionVars false
variable {b : Nat} {p : Pic}
theorem pk4_fin : ∀ x y z t : Fin 4, bits .and .u8 (pk4 (x.val : Int) (y.val : Int) (z.val : Int) (t.val : Int)) 3 = (x.val : Int) ∧ bits .and .u8 (pk4 (x.val : Int) (y.val : Int) (z.val : Int) (t.val : Int) / 4) 3 = (y.val : Int) ∧ bits .and .u8 (pk4 (x.val : Int) (y.val : Int) (z.val : Int) (t.val : Int) / 16) 3 = (z.val : Int) ∧ pk4 (x.val : Int) (y.val : Int) (z.val : Int) (t.val : Int) / 64 = (t.val : Int) := by decide +kernel
theorem fin_of {x : Int} (h : 0 ≤ x ∧ x ≤ 3) : ∃ y : Fin 4, (y.val : Int) = x := ⟨⟨x.toNat, by omega⟩, by simp; omega⟩
theorem pk4_un {x y z t : Int} (hx : 0 ≤ x ∧ x ≤ 3) (hy : 0 ≤ y ∧ y ≤ 3) (hz : 0 ≤ z ∧ z ≤ 3) (ht : 0 ≤ t ∧ t ≤ 3) : bits .and .u8 (pk4 x y z t) 3 = x ∧ bits .and .u8 (pk4 x y z t / 4) 3 = y ∧ bits .and .u8 (pk4 x y z t / 16) 3 = z ∧ pk4 x y z t / 64 = t := by
  obtain ⟨x, rfl⟩ := fin_of hx
  obtain ⟨y, rfl⟩ := fin_of hy
  obtain ⟨z, rfl⟩ := fin_of hz
  obtain ⟨t, rfl⟩ := fin_of ht
  exact pk4_fin x y z t
theorem unpk_pk {d c : Nat → Int} (hd : ∀ k, k < 23040 → 0 ≤ d k ∧ d k ≤ 3) (hc : ∀ k, k < 5760 → c k = pk d k) (k : Nat) (hk : k < 23040) : unpk c k = d k := by
  have h := pk4_un (hd (4 * (k / 4)) (by omega)) (hd (4 * (k / 4) + 1) (by omega)) (hd (4 * (k / 4) + 2) (by omega)) (hd (4 * (k / 4) + 3) (by omega))
  unfold unpk
  rw [hc (k / 4) (by omega)]
  unfold pk
  split
  · rw [h.1]
    congr 1
    omega
  · split
    · rw [h.2.1]
      congr 1
      omega
    · split
      · rw [h.2.2.1]
        congr 1
        omega
      · rw [h.2.2.2]
        congr 1
        omega
section
variable {f : Nat → Int} (s : Sane p) (hf : ∀ k, k < 19887 → f k = p.st k)
include s hf
theorem bk_rg (k : Nat) (hk : k < 12) : (stPic f).rg k = p.rg k := by
  show f k = _
  rw [hf k (by omega)]
  unfold Pic.st
  rw [if_pos hk]
theorem bk_clk : (stPic f).clk = p.clk := by
  show f 12 * 4 = _
  rw [hf 12 (by decide)]
  have e : p.st 12 = p.clk / 4 := rfl
  rw [e]
  have := s.c4
  omega
theorem bk_13 : f 13 = if p.met = true then 1 else 0 := by rw [hf 13 (by decide)]; rfl
theorem bk_met : (stPic f).met = p.met := by
  show (f 13 == 1) = _
  rw [bk_13 s hf]
  cases p.met <;> rfl
theorem bk_rows : (stPic f).rows = p.rows := by
  show f 14 = _
  rw [hf 14 (by decide)]
  rfl
theorem bk_vr (k : Nat) (hk : k < 8192) : (stPic f).vr k = p.vr k := by
  show f (15 + k) = _
  rw [hf (15 + k) (by omega)]
  unfold Pic.st
  rw [if_neg (by omega), if_neg (by omega), if_neg (by omega), if_neg (by omega), if_pos (by omega), show 15 + k - 15 = k by omega]
theorem bk_oa (k : Nat) (hk : k < 160) : (stPic f).oa k = p.oa k := by
  show f (8207 + k) = _
  rw [hf (8207 + k) (by omega)]
  unfold Pic.st
  rw [if_neg (by omega), if_neg (by omega), if_neg (by omega), if_neg (by omega), if_neg (by omega), if_pos (by omega), show 8207 + k - 8207 = k by omega]
theorem bk_dr (k : Nat) (hk : k < 23040) : (stPic f).dr k = p.dr k := by
  have e : (stPic f).dr = unpk (fun k => f (8367 + k)) := rfl
  rw [e]
  refine unpk_pk (d := p.dr) (c := fun k => f (8367 + k)) s.d3 (fun k hk => ?_) k hk
  show f (8367 + k) = _
  rw [hf (8367 + k) (by omega)]
  unfold Pic.st
  rw [if_neg (by omega), if_neg (by omega), if_neg (by omega), if_neg (by omega), if_neg (by omega), if_neg (by omega), if_pos (by omega), show 8367 + k - 8367 = k by omega]
theorem bk_sh (k : Nat) (hk : k < 23040) : (stPic f).sh k = p.sh k := by
  have e : (stPic f).sh = unpk (fun k => f (14127 + k)) := rfl
  rw [e]
  refine unpk_pk (d := p.sh) (c := fun k => f (14127 + k)) s.s3 (fun k hk => ?_) k hk
  show f (14127 + k) = _
  rw [hf (14127 + k) (by omega)]
  unfold Pic.st
  rw [if_neg (by omega), if_neg (by omega), if_neg (by omega), if_neg (by omega), if_neg (by omega), if_neg (by omega), if_neg (by omega), show 14127 + k - 14127 = k by omega]
theorem bk_cell (j : Nat) (hj : j < 54447) : (stPic f).cell j = p.cell j := by
  unfold Pic.cell
  split
  · rw [bk_vr s hf _ (by omega)]
  · split
    · rw [bk_oa s hf _ (by omega)]
    · split
      · rw [bk_rg s hf _ (by omega)]
      · split
        · rw [bk_clk s hf]
        · split
          · rw [bk_met s hf]
          · split
            · rw [bk_rows s hf]
            · split
              · rw [bk_dr s hf _ (by omega)]
              · rw [bk_sh s hf _ (by omega)]
theorem bk_taken : Taken 19887 f := by
  have o := s.ok
  have e0 : (stPic f).has 128 = p.has 128 := by unfold Pic.has; rw [bk_rg s hf 0 (by decide)]
  have el : (stPic f).lines = p.lines := by unfold Pic.lines; rw [bk_rg s hf 4 (by decide), bk_clk s hf]
  have ek : (stPic f).looked = p.looked := by unfold Pic.looked; rw [bk_rg s hf 4 (by decide), bk_clk s hf]
  refine ⟨rfl, by rw [bk_13 s hf]; split <;> decide, ⟨by rw [bk_rg s hf 1 (by decide)]; exact o.st, by rw [bk_rg s hf 6 (by decide)]; exact o.dm, by rw [bk_rg s hf 4 (by decide)]; exact o.ly, by rw [bk_clk s hf]; exact o.c9, fun h => ?_, ⟨?_, ?_, ?_, ?_⟩⟩⟩
  · rw [e0] at h
    obtain ⟨h1, h2, h3⟩ := o.off h
    exact ⟨by rw [bk_rg s hf 4 (by decide)]; exact h1, by rw [bk_clk s hf]; exact h2, fun k hk => by rw [bk_sh s hf k hk]; exact h3 k hk⟩
  · rw [bk_met s hf, ek]
    exact o.fr.ml
  · rw [bk_met s hf, bk_rows s hf]
    exact o.fr.rm
  · rw [bk_rows s hf, el]
    exact o.fr.rl
  · intro k hk h
    rw [el] at h
    rw [bk_dr s hf k hk]
    exact o.fr.dz k hk h
theorem bk_at {w : World} (h : PxAt w b (stPic f)) : PxAt w b p := h.same (bk_cell s hf)
end
end Go.Proofs.Ytmjfccdhjhkocaa
/- PpuCut: a state goes from one picture into another. -/
namespace Go.Proofs.Ytmjfccdhjhkocaa
open Go.RowKit
set_option linter.unusedVariables false
variable {b : Nat} {p : Pic}
theorem lentF_b {len : Nat} {f : Nat → Int} (h : ∀ k, 0 ≤ f k ∧ f k ≤ 255) (k : Nat) : 0 ≤ lentF len f k ∧ lentF len f k ≤ 255 := by
  unfold lentF
  split
  · exact h k
  · decide
theorem lentF_low {f : Nat → Int} {len k : Nat} (h : k < len) : lentF len f k = f k := if_pos h
set_option maxRecDepth 100000 in
set_option maxHeartbeats 2000000 in
theorem moved_any {K : Nat → Prop} {bk n ba bz : Nat} {r : Pic} {W : World} (h : Bk K bk n W) (hy : PxAt W ba p) (hz : PxAt W bz r) (s : Sane p) (sr : Sane r) (ky : K ba) (kz : K bz) (hyz : ba ≠ bz) (hK : ∀ b, K b → b < W.heap.size) :
    Calls Try.prog 40 #[.pointer (some ⟨bk, 0, none⟩), .pointer (some ⟨ba, 0, none⟩), .pointer (some ⟨bz, 0, none⟩)] W fun e w' => e = .returned (.bool true) ∧ PxAt w' bz p ∧ (∃ n', Bk K bk n' w') ∧ FK (fun b => K b ∧ b ≠ bz) W w' := by
  obtain ⟨F, hF0⟩ : ∃ F : Nat → Int, F = fun k => if k < 19887 then p.st k else 0 := ⟨_, rfl⟩
  have hFe : ∀ k, k < 19887 → F k = p.st k := fun k hk => by rw [hF0]; exact if_pos hk
  have hF : ∀ k, 0 ≤ F k ∧ F k ≤ 255 := fun k => by
    rw [hF0]
    dsimp only
    split
    · exact st_b s k (by assumption)
    · decide
  obtain ⟨S, hS⟩ : ∃ S, S = strN 19887 F := ⟨_, rfl⟩
  have HC : Hid (∀ w g, NmAt w g 19887 F → (convert 23 9 (.slice (some ⟨g, 0, none⟩) 19887 19887)).run Try.prog w = .ok (.string S) w) := fun w g n => by rw [hS]; exact n.conv 19887
  have HST : Hid (∀ w, PxAt w ba p → Calls Try.prog 35 #[.pointer (some ⟨ba, 0, none⟩)] w fun e w' => e = .returned (.slice (some ⟨w.heap.size, 0, none⟩) 19887 19887) ∧ NmAt w' w.heap.size 19887 F ∧ Up w w') := fun w hw => (state_any s w hw).mono fun e w' ⟨h1, h2, h3⟩ => ⟨h1, h2.congr (fun k hk => (hFe k hk).symm), h3⟩
  have HTK : Hid (Taken 19887 (lentF 19887 F)) := bk_taken s (fun k hk => (lentF_low hk).trans (hFe k hk))
  have HAT : Hid (∀ w, PxAt w bz (stPic (lentF 19887 F)) → PxAt w bz p) := fun w hw => bk_at s (fun k hk => (lentF_low hk).trans (hFe k hk)) hw
  have HSR : Hid (Sane r) := sr
  have HFb : Hid (∀ k, 0 ≤ F k ∧ F k ≤ 255) := hF
  have HS : Hid (S = strN 19887 F) := hS
  have H0 : Hid (Bk K bk n W ∧ PxAt W ba p ∧ PxAt W bz r ∧ K ba ∧ K bz ∧ ba ≠ bz ∧ ∀ b, K b → b < W.heap.size) := ⟨h, hy, hz, ky, kz, hyz, hK⟩
  clear h hy hz s sr ky kz hyz hK hF0 hFe hF hS
  go_enter Try.func40, Try.ntmps40
  go_wp2_with fail
  refine (HST.out W H0.out.2.1).mono ?_
  rintro e w1 ⟨rfl, n1, u1⟩
  generalize hg1 : W.heap.size = g1 at n1 ⊢
  have H1 : Hid (NmAt w1 g1 19887 F ∧ Up W w1 ∧ W.heap.size = g1) := ⟨n1, u1, hg1⟩
  clear n1 u1 hg1
  go_wp2_with fail
  refine (HST.out w1 (H0.out.2.1.up H1.out.2.1)).mono ?_
  rintro e w2 ⟨rfl, n2, u2⟩
  generalize hg2 : w1.heap.size = g2 at n2 ⊢
  have H2 : Hid (NmAt w2 g1 19887 F ∧ NmAt w2 g2 19887 F ∧ Up W w2 ∧ W.heap.size = g1 ∧ g1 < g2) := ⟨H1.out.1.of_block (u2.block g1 H1.out.1.lt), n2, H1.out.2.1.trans u2, H1.out.2.2, by have := H1.out.1.lt; omega⟩
  clear n2 u2 hg2 H1
  go_wp2_with fail
  refine (state_any HSR.out w2 (H0.out.2.2.1.up H2.out.2.2.1)).mono ?_
  rintro e w3 ⟨rfl, _, u3⟩
  have H3 : Hid (NmAt w3 g1 19887 F ∧ NmAt w3 g2 19887 F ∧ Up W w3 ∧ W.heap.size = g1 ∧ g1 < g2) := ⟨H2.out.1.of_block (u3.block g1 H2.out.1.lt), H2.out.2.1.of_block (u3.block g2 H2.out.2.1.lt), H2.out.2.2.1.trans u3, H2.out.2.2.2⟩
  clear u3 H2
  generalize w2.heap.size = gq
  go_wp2_with fail
  refine (HST.out w3 (H0.out.2.1.up H3.out.2.2.1)).mono ?_
  rintro e w4 ⟨rfl, n4, u4⟩
  generalize hg4 : w3.heap.size = g4 at n4 ⊢
  have H4 : Hid (NmAt w4 g1 19887 F ∧ NmAt w4 g2 19887 F ∧ NmAt w4 g4 19887 F ∧ Up W w4 ∧ W.heap.size = g1 ∧ g1 < g2 ∧ g2 < g4) := ⟨H3.out.1.of_block (u4.block g1 H3.out.1.lt), H3.out.2.1.of_block (u4.block g2 H3.out.2.1.lt), n4, H3.out.2.2.1.trans u4, H3.out.2.2.2.1, H3.out.2.2.2.2, by have := H3.out.2.1.lt; omega⟩
  clear n4 u4 hg4 H3 HST
  have c1 := HC.out w4 g1 H4.out.1
  have c2 := HC.out w4 g2 H4.out.2.1
  have c4 := HC.out w4 g4 H4.out.2.2.1
  have HLe : Hid _ := lent_any (H4.out.1.bytsP 19887 19887 (Nat.le_refl _) (Nat.le_refl _) (by decide) HFb.out) (by decide)
  go_wp2_with fail
  refine Calls.mono HLe.out ?_
  rintro e w5 ⟨cg, rfl, hcg, n5, u5⟩
  have H5 : Hid (NmAt w5 g1 19887 F ∧ NmAt w5 g2 19887 F ∧ NmAt w5 g4 19887 F ∧ NmAt w5 cg (19887 + 70) (lentF 19887 F) ∧ Up W w5 ∧ W.heap.size = g1 ∧ g1 < g2 ∧ g2 < g4 ∧ g4 < cg) := ⟨H4.out.1.of_block (u5.block g1 H4.out.1.lt), H4.out.2.1.of_block (u5.block g2 H4.out.2.1.lt), H4.out.2.2.1.of_block (u5.block g4 H4.out.2.2.1.lt), n5, H4.out.2.2.2.1.trans u5, H4.out.2.2.2.2.1, H4.out.2.2.2.2.2.1, H4.out.2.2.2.2.2.2, by have := H4.out.2.2.1.lt; omega⟩
  clear hcg n5 u5 HLe H4 c1 c2 c4
  have hzl : Hid (ba < g1 ∧ bz < g1) := ⟨by have := H0.out.2.1.lt; have := H5.out.2.2.2.2.2.1; omega, by have := H0.out.2.2.1.lt; have := H5.out.2.2.2.2.2.1; omega⟩
  have HLo : Hid _ := load_any (H5.out.2.2.2.1.bytsP 19887 (19887 + 70) (by omega) (by omega) (by decide) (lentF_b HFb.out)) (H0.out.2.2.1.up H5.out.2.2.2.2.1)
  go_wp2_with fail
  refine Calls.mono HLo.out ?_
  rintro e w6 ⟨ht1, _, f6⟩
  obtain ⟨rfl, p6⟩ := ht1 HTK.out
  have H6 : Hid (NmAt w6 g1 19887 F ∧ NmAt w6 g2 19887 F ∧ NmAt w6 g4 19887 F ∧ NmAt w6 cg (19887 + 70) (lentF 19887 F) ∧ PxAt w6 bz p ∧ Fr bz w5 w6) := by
    have q0 := hzl.out.2
    obtain ⟨r1, r2, r4, rc, ru, z1, z2, z3, z4⟩ := H5.out
    exact ⟨r1.frN f6 (by omega), r2.frN f6 (by omega), r4.frN f6 (by omega), rc.frN f6 (by omega), HAT.out _ p6, f6⟩
  clear ht1 p6 f6 HLo HTK HAT
  have HBk : Hid _ := back_any (aa := some ⟨g1, 0, none⟩) (ab := g1) (ao := 0) (cap := 19887) (g := cg) (H6.out.1.bytsP 19887 19887 (Nat.le_refl _) (Nat.le_refl _) (by decide) HFb.out) (by decide) H6.out.2.2.2.1 (fun _ => by have := H5.out.2.2.2.2.2; omega)
  go_wp2_with fail
  refine Calls.mono HBk.out ?_
  rintro e w7 ⟨rfl, f7⟩
  have H7 : Hid (NmAt w7 g1 19887 F ∧ NmAt w7 g2 19887 F ∧ NmAt w7 g4 19887 F ∧ PxAt w7 bz p ∧ Fr cg w6 w7) := by
    have q0 := hzl.out.2
    obtain ⟨r1, r2, r4, rc, ru, z1, z2, z3, z4⟩ := H5.out
    obtain ⟨t1, t2, t4, tc, tp, tf⟩ := H6.out
    exact ⟨t1.frN f7 (by omega), t2.frN f7 (by omega), t4.frN f7 (by omega), tp.frB f7 (by omega), f7⟩
  clear f7 HBk
  have HK7 : Hid (Bk (fun b => K b ∨ b = g1 ∨ b = g2 ∨ b = g4 ∨ b = cg) bk n w7) := by
    obtain ⟨r1, r2, r4, rc, ru, z1, z2, z3, z4⟩ := H5.out
    exact ((((H0.out.1.mono (fun b hb e => e.elim id (fun e => by omega))).up ru).fr H6.out.2.2.2.2.2 (Or.inl H0.out.2.2.2.2.1)).fr H7.out.2.2.2.2 (Or.inr (Or.inr (Or.inr (Or.inr rfl)))))
  have HZ7 : Hid (∀ b, (K b ∨ b = g1 ∨ b = g2 ∨ b = g4 ∨ b = cg) → b < w7.heap.size) := fun b e => by
    have l0 := H5.out.2.2.2.2.1.size
    have l1 := H6.out.2.2.2.2.2.size
    have l2 := H7.out.2.2.2.2.size
    have l3 := H5.out.2.2.2.1.lt
    obtain ⟨z1, z2, z3, z4⟩ := H5.out.2.2.2.2.2
    rcases e with e | e | e | e | e
    · have := H0.out.2.2.2.2.2.2 b e
      omega
    all_goals omega
  have HTh : Hid _ := three_any HK7.out H7.out.1 H7.out.2.1 H7.out.2.2.1 HFb.out (Or.inr (Or.inl rfl)) (Or.inr (Or.inr (Or.inl rfl))) (Or.inr (Or.inr (Or.inr (Or.inl rfl)))) (by have := H5.out.2.2.2.2.2; omega) (by have := H5.out.2.2.2.2.2; omega) (by have := H5.out.2.2.2.2.2; omega) HZ7.out HS.out
  go_wp2_with fail
  refine Calls.mono HTh.out ?_
  rintro e w8 ⟨rfl, n8, B8, f8⟩
  have HE : Hid (PxAt w8 bz p ∧ (∃ n', Bk K bk n' w8) ∧ FK (fun b => K b ∧ b ≠ bz) W w8) := by
    have q0 := hzl.out.2
    obtain ⟨r1, r2, r4, rc, ru, z1, z2, z3, z4⟩ := H5.out
    have hk := H0.out.2.2.2.2.2.2
    have up4 : ∀ b, K b → (((K b ∨ b = g1 ∨ b = g2 ∨ b = g4 ∨ b = cg) ∧ b ≠ g1) ∧ b ≠ g2) ∧ b ≠ g4 := fun b e => by
      have := hk b e
      exact ⟨⟨⟨Or.inl e, by omega⟩, by omega⟩, by omega⟩
    refine ⟨H7.out.2.2.2.1.ofB (f8.block bz H7.out.2.2.2.1.lt (up4 bz H0.out.2.2.2.2.1)), ⟨n8, B8.mono (fun b _ e => up4 b e)⟩, ?_⟩
    refine ((FK.ofUp ru).trans ((FK.ofFr H6.out.2.2.2.2.2 (fun e => e.2 rfl)).trans (FK.ofFr H7.out.2.2.2.2 (fun e => ?_)))).trans (f8.mono (fun b _ e => up4 b e.1))
    have := hk cg e.1
    omega
  clear B8 f8 HTh
  go_wp2_with fail
  go_ret
  exact ⟨by first | rfl | (simp; done), HE.out⟩
end Go.Proofs.Ytmjfccdhjhkocaa
/- PpuCut: two pictures that one scene has made are the same, cell by cell; ticks and writes on a picture beside a book. -/
namespace Go.Proofs.Ytmjfccdhjhkocaa
open Go.RowKit
set_option linter.unusedVariables false
variable {b : Nat} {p : Pic}
theorem Scn.zero {s : Sce} {q : Pic} (h : Scn s q) : q.met = false ∧ q.rows = 0 ∧ ∀ k, k < 23040 → q.dr k = 0 := by
  have h4 := h.r4
  have hc := h.clk
  have el : q.lines = 0 := by
    unfold Pic.lines
    rw [h4, hc]
    decide
  refine ⟨?_, ?_, fun k hk => h.sane.dz k hk (by rw [el]; omega)⟩
  · cases hm : q.met
    · rfl
    · have := h.sane.ml hm
      omega
  · have r0 := h.sane.r0
    have rl := h.sane.rl
    rw [el] at rl
    omega
theorem scn_cell {s : Sce} {q r : Pic} (h : Scn s q) (g : Scn s r) (hz : ∀ k, k < 23040 → q.sh k = 0) (gz : ∀ k, k < 23040 → r.sh k = 0) (j : Nat) (hj : j < 54447) : q.cell j = r.cell j := by
  obtain ⟨m1, r1, d1⟩ := h.zero
  obtain ⟨m2, r2, d2⟩ := g.zero
  unfold Pic.cell
  split
  · rw [h.vr, g.vr]
  · split
    · rw [h.oa, g.oa]
    · split
      · rw [h.rg, g.rg]
      · split
        · rw [h.clk, g.clk]
        · split
          · rw [m1, m2]
          · split
            · rw [r1, r2]
            · split
              · rw [d1 _ (by omega), d2 _ (by omega)]
              · rw [hz _ (by omega), gz _ (by omega)]
/-- two pictures that are one, beside a book; all older blocks as they were -/
structure Cu (W : World) (K : Nat → Prop) (bx ba bk n : Nat) (p : Pic) (w : World) : Prop where
  px : PxAt w bx p
  py : PxAt w ba p
  sane : Sane p
  bk : Bk K bk n w
  kx : K bx
  ky : K ba
  ne : bx ≠ ba
  kb : ∀ b, K b → b < w.heap.size
  ko : ∀ b, b < W.heap.size → K b
  nx : W.heap.size ≤ bx
  ny : W.heap.size ≤ ba
  up : Up W w
theorem FK.fr {K : Nat → Prop} {w w' : World} {c : Nat} (f : Fr c w w') : FK (fun b => K b ∧ b ≠ c) w w' := ⟨f.os, f.output, f.size, fun b hb h => f.block b hb h.2⟩
theorem Cu.more {W w w' : World} {K : Nat → Prop} {bx ba bk n : Nat} (h : Cu W K bx ba bk n p w) (u : Up w w') : Cu W K bx ba bk n p w' :=
  ⟨h.px.up u, h.py.up u, h.sane, h.bk.up u, h.kx, h.ky, h.ne, fun b hb => Nat.lt_of_lt_of_le (h.kb b hb) u.size, h.ko, h.nx, h.ny, h.up.trans u⟩
/-- both have gone on in the same way -/
theorem Cu.both {W w w1 w2 : World} {K : Nat → Prop} {bx ba bk n : Nat} {q : Pic} (h : Cu W K bx ba bk n p w) (sq : Sane q) (hx : PxAt w1 bx q) (f1 : Fr bx w w1) (hy : PxAt w2 ba q) (f2 : Fr ba w1 w2) : Cu W K bx ba bk n q w2 :=
  ⟨hx.frB f2 h.ne, hy, sq, (h.bk.fr f1 h.kx).fr f2 h.ky, h.kx, h.ky, h.ne, fun b hb => Nat.lt_of_lt_of_le (h.kb b hb) (Nat.le_trans f1.size f2.size), h.ko, h.nx, h.ny, Fr.up (Fr.up h.up h.nx f1) h.ny f2⟩
/-- a third one takes over from the second -/
theorem Cu.zed {W w w3 : World} {K : Nat → Prop} {bx ba bk n bz : Nat} {r : Pic} (h : Cu W K bx ba bk n p w) (u : Up w w3) (hz : w.heap.size ≤ bz) (pz : PxAt w3 bz r) (sr : Sane r) :
    Calls Try.prog 40 #[.pointer (some ⟨bk, 0, none⟩), .pointer (some ⟨ba, 0, none⟩), .pointer (some ⟨bz, 0, none⟩)] w3 fun e w' => e = .returned (.bool true) ∧ ∃ K n p, Cu W K bx bz bk n p w' := by
  have hx := h.kb bx h.kx
  have hy := h.kb ba h.ky
  have l3 := pz.lt
  have lW := h.up.size
  have lu := u.size
  have B : Bk (fun b => K b ∨ b = bz) bk n w3 := (h.bk.mono (fun b hb e => e.elim id (fun e => by omega))).up u
  refine (moved_any B (h.py.up u) pz h.sane sr (Or.inl h.ky) (Or.inr rfl) (by omega) (fun b e => e.elim (fun e => by have := h.kb b e; omega) (fun e => by omega))).mono fun e w' ⟨h1, h2, ⟨n', h3⟩, h4⟩ => ⟨h1, (fun b => K b ∨ b = bz), n', p, ?_⟩
  have px3 := h.px.up u
  refine ⟨px3.ofB (h4.block bx px3.lt ⟨Or.inl h.kx, by omega⟩), h2, h.sane, h3, Or.inl h.kx, Or.inr rfl, by omega, fun b e => ?_, fun b hb => Or.inl (h.ko b hb), h.nx, by omega, ?_⟩
  · have := h4.size
    rcases e with e | e
    · have := h.kb b e
      omega
    · omega
  · have U := h.up.trans u
    exact ⟨h4.os.trans U.os, h4.output.trans U.output, Nat.le_trans U.size h4.size, fun b hb => (h4.block b (Nat.lt_of_lt_of_le hb U.size) ⟨Or.inl (h.ko b hb), by omega⟩).trans (U.block b hb)⟩
/-- a new book -/
theorem Cu.new {W w : World} {bx ba : Nat} (px : PxAt w bx p) (py : PxAt w ba p) (s : Sane p) (ne : bx ≠ ba) (nx : W.heap.size ≤ bx) (ny : W.heap.size ≤ ba) (u : Up W w) : ∃ K n p, Cu W K bx ba w.heap.size n p (w.alloc (Obj.cells #[.slice none 0 0] 66)) := by
  have ua := (Up.refl w).alloc (Obj.cells #[.slice none 0 0] 66)
  refine ⟨fun b => b < w.heap.size, 0, p, px.up ua, py.up ua, s, ⟨.slice none 0 0, [], ⟨heap_alloc_new w _, ⟨rfl, Or.inl ⟨rfl, rfl⟩⟩, Nat.lt_irrefl _, fun g hg => ?_, fun u hu => ?_, by decide, fun j hj => absurd hj (by omega)⟩⟩, px.lt, py.lt, ne, fun b hb => Nat.lt_of_lt_of_le hb ua.size, fun b hb => Nat.lt_of_lt_of_le hb u.size, nx, ny, u.trans ua⟩
  · cases hg
  · cases hu
end Go.Proofs.Ytmjfccdhjhkocaa
