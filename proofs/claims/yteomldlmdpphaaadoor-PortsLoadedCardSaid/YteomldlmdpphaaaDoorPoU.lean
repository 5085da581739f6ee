/- send: what comes of a transfer. -/
import Derived.Test.YteomldlmdpphaaaDoorPoT
import Derived.Deep.RegionLaw
import Derived.Maps.AppendAt
namespace Go.Proofs.YteomldlmdpphaaaDoor
open Go.RowKit
set_option linter.unusedVariables false
variable {b : Nat} {p : Po}
theorem infoB : Tryd.prog.info? 5 = some Tryd.t5 := by kernel_rfl
theorem append_where (w : World) (base ty : Nat) (v : Value) (n : Nat) (xs : List Value) (hown : w.ownsRow base 5 1 v n xs) (a : Addr) (y : Int) (hnews : ∀ j u, [Value.int .u8 y][j]? = some u → w.cell? (a.add j) = some u) (hn : n ≤ 1000)
    (v' : Value) (w' : World) (hr : (Builtin.append_ #[35, 35] ty #[v, .slice (some a) 1 1]).run Tryd.prog w = .ok v' w') :
    v'.ownBlock = v.ownBlock ∨ ∃ g, v'.ownBlock = some g ∧ w.heap.size ≤ g := by
  have hsize : Tryd.t5.size = 1 := rfl
  have hby : Tryd.t5.bytes = 1 := rfl
  rcases hown.2 with ⟨rfl, rfl⟩ | ⟨g, cap, cur, rfl, hbg, hg, hnc, hcm, hcs, htake⟩
  · have h := run_append_nil (P := Tryd.prog) w 35 ty 5 Tryd.t5 (.int .u8 0) Tryd.underlying35 infoB rfl a 1 1 [.int .u8 y] (by rw [hsize]; rfl) hnews (by omega) (by omega) (by rw [hby]; omega)
    rw [hr] at h
    injection h with h1 _
    subst h1
    exact Or.inr ⟨_, rfl, Nat.le_refl _⟩
  · by_cases hroom : n + 1 ≤ cap
    · have h := run_append_room (P := Tryd.prog) w 35 ty 5 Tryd.t5 Tryd.underlying35 infoB g n cap cur hg a 1 1 [.int .u8 y] (by rw [hsize]; rfl) hnews (fun u hu => by simp at hu; subst hu; rfl) hroom (by rw [hsize]; simp; omega)
      rw [hr] at h
      injection h with h1 _
      subst h1
      exact Or.inl rfl
    · have holds : ∀ j u, xs[j]? = some u → w.cell? ((⟨g, 0, none⟩ : Addr).add j) = some u := hown.cells (g := g) rfl
      have h := run_append_grow (P := Tryd.prog) w 35 ty 5 Tryd.t5 (.int .u8 0) Tryd.underlying35 infoB rfl ⟨g, 0, none⟩ n cap xs (by rw [hown.1, hsize]) holds a 1 1 [.int .u8 y] (by rw [hsize]; rfl) hnews (by omega) (by omega) (growslice_fits (by omega) (by rw [hby]; omega))
      rw [hr] at h
      injection h with h1 _
      subst h1
      exact Or.inr ⟨_, rfl, Nat.le_refl _⟩
theorem wp_app {o : Oper} {a : Act} {K : Act → World → Prop} {Q : Exit → Act → World → Prop} (w : World) (s x : Operand)
    (ho : o.op = .call { callee := .builtin .append, args := #[s, x], argTypes := #[35, 35] })
    (base : Nat) (v : Value) (n : Nat) (xs : List Value) (hs : a.eval s = v) (hown : w.ownsRow base 5 1 v n xs)
    (ad : Addr) (y : Int) (hx : a.eval x = .slice (some ad) 1 1) (hnews : ∀ j u, [Value.int .u8 y][j]? = some u → w.cell? (ad.add j) = some u) (hn : n ≤ 1000) (hbase : base ≤ w.heap.size)
    (h : ∀ v' w', w'.ownsRow base 5 1 v' (n + 1) (xs ++ [.int .u8 y]) → w.grownBy w' v.ownBlock → (v'.ownBlock = v.ownBlock ∨ ∃ g, v'.ownBlock = some g ∧ w.heap.size ≤ g) → K (a.put o.dst v') w') : o.wp Tryd.prog a w K Q := by
  obtain ⟨v', w', hr, h2, h3, _⟩ := run_append_own (P := Tryd.prog) w base 35 o.type 5 Tryd.t5 (.int .u8 0) 1 1 Tryd.underlying35 infoB rfl rfl rfl rfl (by decide) v n xs hown ad 1 1 [.int .u8 y] rfl hnews (fun u hu => by simp at hu; subst hu; rfl) (by unfold maxLen; omega) (by omega) hbase
  have hwh := append_where w base o.type v n xs hown ad y hnews hn v' w' hr
  unfold Oper.wp execOp
  simp only [ho, resolve, invoke, builtin, Sem.run_bind, Sem.run_pure, Result.andThen_ok, List.map_toArray, List.map_cons, List.map_nil, hs, hx, hr]
  exact h v' w' h2 h3 hwh
theorem own_slice {w : World} {base : Nat} {e : TypeId} {n : Nat} {v : Value} {xs : List Value} (h : w.ownsRow base e 1 v n xs) : ∃ pa cp, v = .slice pa n cp := by
  rcases h.2 with ⟨e, h0⟩ | ⟨g, cap, cur, e, _⟩
  · exact ⟨none, 0, by rw [e, h0]⟩
  · exact ⟨_, _, e⟩
theorem mvd {W : World} {o : Obj} {r r' : Option Nat} (h : r' = r ∨ ∃ g, r' = some g ∧ (W.alloc o).drew.heap.size ≤ g) : Moved W r r' := by
  rcases h with h | ⟨g, e, hg⟩
  · exact Or.inl h
  · refine Or.inr (Or.inr ⟨g, e, ?_⟩)
    have : W.heap.size ≤ (W.alloc o).heap.size := ((Up.refl W).alloc o).size
    exact Nat.le_trans this hg
/-- behind the append -/
theorem mid1 {base : Nat} (hb : b < base) {W w1 : World} {o : Obj} (hbase : base ≤ W.heap.size) {v v' : Value} {zs : List Int} (h : PoAt W b p v) (hS : SeAt W base v zs) (x : Int)
    (hown : w1.ownsRow base 5 1 v' (zs.length + 1) (zs.map (Value.int .u8) ++ [.int .u8 x])) (hg : (W.alloc o).drew.grownBy w1 v.ownBlock) :
    PoAt w1 b p v ∧ SeAt w1 base v' (zs ++ [x]) ∧ FrS b v.ownBlock W w1 := by
  have hu : Up W (W.alloc o) := (Up.refl W).alloc o
  have hs : W.heap.size ≤ (W.alloc o).heap.size := hu.size
  have e : ∀ k, k < W.heap.size → some k ≠ v.ownBlock → w1.heap[k]? = W.heap[k]? := fun k hk hne => (hg.block k (Nat.lt_of_lt_of_le hk hs) hne).trans (hu.block k hk)
  refine ⟨?_, ?_, ⟨hg.os, hg.output, Nat.le_trans hs hg.size, fun k hk _ hr => e k hk hr⟩⟩
  · refine (e b h.lt (fun he => ?_)).trans h
    have := (hS.lt b he.symm).1
    omega
  · unfold SeAt
    rw [show (zs ++ [x]).length = zs.length + 1 by simp, show (zs ++ [x]).map (Value.int .u8) = zs.map (Value.int .u8) ++ [.int .u8 x] by simp]
    exact hown
def Po.sent (p : Po) : Po := { p with se := 0, sh := 255, li := bits .andNot .u8 p.li 128, rq := bits .or .u8 p.rq 8 }
set_option maxRecDepth 100000 in
set_option maxHeartbeats 1000000 in
theorem send_few (o : p.Ok) (base : Nat) (hb : b < base) (v : Value) (zs : List Int) (hn : zs.length < 256) (W : World) (h : PoAt W b p v) (hS : SeAt W base v zs) (hbase : base ≤ W.heap.size) :
    Calls Tryd.prog 39 #[.pointer (some ⟨b, 0, none⟩)] W fun e w' => e = .returned (.tuple #[]) ∧ ∃ v', PoAt w' b p.sent v' ∧ SeAt w' base v' (zs ++ [p.se]) ∧ FrS b v.ownBlock W w' ∧ Moved W v.ownBlock v'.ownBlock := by
  obtain ⟨pa, cp, hv⟩ : ∃ pa cp, v = .slice pa zs.length cp := by
    rcases hS.2 with ⟨e, h0⟩ | ⟨g, cap, cur, e, _⟩
    · exact ⟨none, 0, by rw [e, h0]⟩
    · exact ⟨_, _, e⟩
  have en : ((zs.length : Int) == 256) = false := by simp; omega
  have hie : Tryd.prog.info? 5 = some Tryd.t5 := by kernel_rfl
  have f12 := h.fz 12
  obtain ⟨k0, k1, k2, k3, k4, k5, k6, k7, k8, k9, k10, k11, k12⟩ := h.all
  have H : Hid (PoAt W b p v ∧ SeAt W base v zs) := ⟨h, hS⟩
  rw [hv] at k12
  have lb := h.lt
  clear h hS
  go_enter Tryd.func39, Tryd.ntmps39
  go_wp2_with fail
  go_region_law ((rw [if_pos (by rfl)]; refine wp_app _ (.tmp 20) (.tmp 25) rfl base v zs.length _ (by rw [hv]; simp [Act.eval]) (by exact World.ownsRow.alloc H.out.2 _) ⟨W.heap.size, 0, none⟩ p.se (by simp [Act.eval]) (by intro j u hu; match j, hu with | 0, hu => simp at hu; subst hu; simp [Addr.add]) (by omega) (by simp; omega) ?_; intro v' w1 hown' hgrow hwh
                  obtain ⟨pa', cp', rfl⟩ := own_slice hown'
                  have hM := mid1 hb hbase H.out.1 H.out.2 p.se hown' hgrow
                  have f12 := hM.1.fz 12
                  have k12 := hM.1.all.2.2.2.2.2.2.2.2.2.2.2.2
                  have HM : Hid _ := hM
                  have HMv : Hid (Moved W v.ownBlock (Value.slice pa' (zs.length + 1) cp').ownBlock) := mvd hwh
                  clear hown' hgrow hM hwh))
  all_goals
    generalize hw2 : World.setCell _ _ _ = w2
    have P2 : PoAt w2 b p (.slice pa' (zs.length + 1) cp') ∧ SeAt w2 base (.slice pa' (zs.length + 1) cp') (zs ++ [p.se]) ∧ FrS b v.ownBlock W w2 := by
      rw [← hw2]
      exact ⟨HM.out.1.set 12 _ rfl, HM.out.2.1.fr ((Fr.refl b _).setCell) hb, HM.out.2.2.trans (Moved.refl _ _) (FrS.ofFr ((Fr.refl b _).setCell))⟩
    have HP2 : Hid _ := P2
    have g2 := P2.1.fz 2
    have g3 := P2.1.fz 3
    have g11 := P2.1.fz 11
    obtain ⟨m0, m1, m2, m3, m4, m5, m6, m7, m8, m9, m10, m11, m12⟩ := P2.1.all
    have HA : Hid (∀ W, PoAt W b { p with se := 0, sh := 255, li := bits .andNot .u8 p.li 128 } (.slice pa' (zs.length + 1) cp') → Calls Tryd.prog 44 #[.pointer (some ⟨b, 0, none⟩), .int .i64 3] W fun e w' => e = .returned (.tuple #[]) ∧ PoAt w' b p.sent (.slice pa' (zs.length + 1) cp') ∧ Fr b W w') := fun W h => ask3_any _ W h
    clear hw2 HM f12 k12 P2
    go_wp2_with fail
    refine (HA.out _ (PoAt.set (p := { p with se := 0, sh := 255 }) (PoAt.set (p := { p with se := 0 }) (PoAt.set (p := p) HP2.out.1 11 _ rfl) 2 _ rfl) 3 _ rfl)).mono ?_
    rintro e w3 ⟨rfl, h3, hF⟩
    have H3 : Hid (PoAt w3 b p.sent (.slice pa' (zs.length + 1) cp') ∧ Fr b w2 w3) := ⟨h3, ((Fr.refl b w2).setCell.setCell.setCell).trans hF⟩
    clear h3 hF
    go_wp2_with fail
    go_end0
    exact ⟨rfl, _, H3.out.1, HP2.out.2.1.fr H3.out.2 hb, HP2.out.2.2.trans (Moved.refl _ _) (FrS.ofFr H3.out.2), HMv.out⟩
end Go.Proofs.YteomldlmdpphaaaDoor
