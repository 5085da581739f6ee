/- CpuReckons: what its walk shares. -/
import Derived.Test.YtbfjihcnnefehaaGreatDoorKb
namespace Go.Proofs.YtbfjihcnnefehaaGreatDoor
open Go.RowKit
set_option linter.unusedVariables false
theorem flg_b (z n h c : Bool) : 0 ≤ flg z n h c ∧ flg z n h c ≤ 255 := by cases z <;> cases n <;> cases h <;> cases c <;> decide
theorem arF_b (K : Nat) (hK : K < 8) (a b f : Int) : 0 ≤ arF K a b f ∧ arF K a b f ≤ 255 := by
  rcases c8 hK with rfl | rfl | rfl | rfl | rfl | rfl | rfl | rfl <;> exact flg_b _ _ _ _
/-- four blocks that were laid one behind the other -/
theorem four (X W : World) (B0 B1 B2 L : Array Value) (t0 t1 t2 t3 : TypeId) (h : (((X.alloc (.cells B0 t0)).alloc (.cells B1 t1)).alloc (.cells B2 t2)).alloc (.cells L t3) = W) :
    (∀ k, W.cell? ⟨X.heap.size, k, none⟩ = B0[k]?) ∧ (∀ k, W.cell? ⟨X.heap.size + 1, k, none⟩ = B1[k]?) ∧ (∀ k, W.cell? ⟨X.heap.size + 1 + 1, k, none⟩ = B2[k]?) ∧ (∀ k, W.cell? ⟨X.heap.size + 1 + 1 + 1, k, none⟩ = L[k]?) ∧ W.heap.size = X.heap.size + 1 + 1 + 1 + 1 ∧ Up X W := by
  generalize e1 : X.alloc (.cells B0 t0) = w1 at h
  generalize e2 : w1.alloc (.cells B1 t1) = w2 at h
  generalize e3 : w2.alloc (.cells B2 t2) = w3 at h
  have s1 : w1.heap.size = X.heap.size + 1 := by rw [← e1]; simp
  have s2 : w2.heap.size = X.heap.size + 1 + 1 := by rw [← e2]; simp [s1]
  have s3 : w3.heap.size = X.heap.size + 1 + 1 + 1 := by rw [← e3]; simp [s2]
  have u1 : Up X w1 := by rw [← e1]; exact (Up.refl X).alloc _
  have u2 : Up w1 w2 := by rw [← e2]; exact (Up.refl w1).alloc _
  have u3 : Up w2 w3 := by rw [← e3]; exact (Up.refl w2).alloc _
  have u4 : Up w3 W := by rw [← h]; exact (Up.refl w3).alloc _
  refine ⟨fun k => ?_, fun k => ?_, fun k => ?_, fun k => ?_, by rw [← h]; simp [s3], u1.trans (u2.trans (u3.trans u4))⟩
  · rw [(u2.trans (u3.trans u4)).cell (by omega), ← e1]; exact World.cell?_alloc_new X _ _ k
  · rw [(u3.trans u4).cell (by omega), ← e2, ← s1]; exact World.cell?_alloc_new w1 _ _ k
  · rw [u4.cell (by omega), ← e3, ← s2]; exact World.cell?_alloc_new w2 _ _ k
  · rw [← h, ← s3]; exact World.cell?_alloc_new w3 _ _ k
/-- two -/
theorem twoB (X W : World) (B0 L : Array Value) (t0 t3 : TypeId) (h : (X.alloc (.cells B0 t0)).alloc (.cells L t3) = W) :
    (∀ k, W.cell? ⟨X.heap.size, k, none⟩ = B0[k]?) ∧ (∀ k, W.cell? ⟨X.heap.size + 1, k, none⟩ = L[k]?) ∧ W.heap.size = X.heap.size + 1 + 1 ∧ Up X W := by
  generalize e1 : X.alloc (.cells B0 t0) = w1 at h
  have s1 : w1.heap.size = X.heap.size + 1 := by rw [← e1]; simp
  have u1 : Up X w1 := by rw [← e1]; exact (Up.refl X).alloc _
  have u4 : Up w1 W := by rw [← h]; exact (Up.refl w1).alloc _
  refine ⟨fun k => ?_, fun k => ?_, by rw [← h]; simp [s1], u1.trans u4⟩
  · rw [u4.cell (by omega), ← e1]; exact World.cell?_alloc_new X _ _ k
  · rw [← h, ← s1]; exact World.cell?_alloc_new w1 _ _ k
/-- the bytes of a piece, as cells -/
def byteCells (W : World) (gb : Nat) (bs : List Int) : Prop := ∀ k (hk : k < bs.length), W.cell? ⟨gb, k, none⟩ = some (.int .u8 bs[k])
theorem byteCells.up {W W' : World} {gb : Nat} {bs : List Int} (h : byteCells W gb bs) (u : Up W W') (hg : gb < W.heap.size) : byteCells W' gb bs := fun k hk => (u.cell hg).trans (h k hk)
theorem byteCells_of {W : World} {gb : Nat} (bs : List Int) {B : Array Value} (h : ∀ k, W.cell? ⟨gb, k, none⟩ = B[k]?) (e : B = (bs.map (Value.int .u8)).toArray) : byteCells W gb bs := fun k hk => by
  rw [h, e]
  simp [hk]
theorem up_set2 {w w5 : World} (u : Up w w5) {p : Nat} (hp : w.heap.size ≤ p) (a b : Nat) (x y : Value) : Up w ((w5.setCell ⟨p, a, none⟩ x).setCell ⟨p, b, none⟩ y) :=
  (u.setCell (p := ⟨p, a, none⟩) hp x).setCell (p := ⟨p, b, none⟩) hp y
theorem stF_b (E : Nat) (hE : E < 2) (a f : Int) : 0 ≤ stF E a f ∧ stF E a f ≤ 255 := by
  have : E = 0 ∨ E = 1 := by omega
  rcases this with rfl | rfl <;> exact flg_b _ _ _ _
theorem daF_b (a f : Int) : 0 ≤ daF a f ∧ daF a f ≤ 255 := by unfold daF; split <;> exact flg_b _ _ _ _
theorem tuF_b (K : Nat) (hK : K < 8) (a f : Int) : 0 ≤ tuF K a f ∧ tuF K a f ≤ 255 := by
  rcases c8 hK with rfl | rfl | rfl | rfl | rfl | rfl | rfl | rfl
  all_goals first | exact daF_b _ _ | exact flg_b _ _ _ _
theorem ofF_b (sp e : Int) : 0 ≤ ofF sp e ∧ ofF sp e ≤ 255 := flg_b _ _ _ _
theorem ofR_b (sp e : Int) : 0 ≤ ofR sp e ∧ ofR sp e ≤ 65535 := by unfold ofR; omega
theorem re_T3 {T : Rg} {r : Nat → Int} {sp n V H pc : Int} {ime : Bool} (hT : T = toRg (bd (upd (hlR2 r sp n) 6 (ofF sp n)) (ofR sp n) pc ime)) (hV : V = ofR sp n) (hH : H = ofF sp n) (h0 : 0 ≤ V) (h1 : V ≤ 65535) :
    256 * T.h + T.l = V ∧ T.sp = V ∧ T.f = H ∧ 0 ≤ T.h ∧ T.h ≤ 255 ∧ 0 ≤ T.l ∧ T.l ≤ 255 := by
  have eh : T.h = ofR sp n / 256 := by rw [hT]; rfl
  have el : T.l = ofR sp n % 256 := by rw [hT]; rfl
  rw [← hV] at eh el
  refine ⟨by omega, by rw [hT, hV]; rfl, by rw [hT, hH]; rfl, by omega, by omega, by omega, by omega⟩
theorem Pcs.drew {W : World} {gp : Nat} {ps : List Pc} (h : Pcs W gp ps) : Pcs W.drew gp ps := ⟨h.lt, h.has⟩
theorem mem_two' (gp : Nat) (a : Int) (bs : List Int) (a2 : Int) (bs2 : List Int) (W : World) (s : Nat) (hs : W.heap.size = s) (hp : Pcs W gp [⟨a, bs⟩, ⟨a2, bs2⟩]) :
    Calls Tryz.prog 17 #[.slice (some ⟨gp, 0, none⟩) 2 2] W fun e w' => e = .returned (.slice (some ⟨s, 0, none⟩) 65536 65536) ∧ Mem w' s (mem2 a bs a2 bs2) ∧ Up W w' := by
  subst hs
  exact mem_two gp a bs a2 bs2 W hp
theorem bun_mk' {w w4 w6 : World} {b p s : Nat} {G : Rg} {q : St} {f : Nat → Int} (u4 : Up w w4) (hL : LaidB w) (h4 : Cp w4 b q) (hb : w.heap.size ≤ b) (hp : p < w4.heap.size) (hr : RgAt w4 p G) (hpb : p ≠ b) (u6 : Up w4 w6) (hs : w4.heap.size ≤ s) (m6 : Mem w6 s f) :
    Bun w b s p G q f w6 ∧ Bks w b s p := by
  have hl := h4.lt
  have h0 := hL.1
  have h1 := u4.size
  exact ⟨⟨h4.up u6, m6, hr.up u6, u4.trans u6, hL.up (u4.trans u6)⟩, ⟨by omega, by omega, by omega, hpb, by omega, hb, by omega⟩⟩
theorem frRow' (w : World) (q : Nat) (cs : Array Value) : Fr q w (w.setRow q cs) := ⟨rfl, rfl, by simp [World.setRow], fun k hk hne => setRow_other _ _ _ _ hne⟩
theorem Cp.fr1' {w w' : World} {b c : Nat} {s : St} (h : Cp w b s) (u : Fr c w w') (hc : b ≠ c) : Cp w' b s := (u.block b h.lt hc).trans h
theorem RgAt.fr1' {W W' : World} {p c : Nat} {G : Rg} (h : RgAt W p G) (u : Fr c W W') (hc : p ≠ c) : RgAt W' p G := (u.block p h.lt hc).trans h
/-- three processors, two blocks of registers; all that was there ahead of them is as it was -/
structure Bun3 (w : World) (x y z p q : Nat) (G T : Rg) (sx sy sz : St) (W : World) : Prop where
  cx : Cp W x sx
  cy : Cp W y sy
  cz : Cp W z sz
  reg : RgAt W p G
  tg : RgAt W q T
  up : Up w W
  lb : LaidB W
structure Bk3 (w : World) (x y z gm p q : Nat) : Prop where
  x0 : x ≠ 0
  g0 : gm ≠ 0
  gx : gm ≠ x
  yx : y ≠ x
  yg : y ≠ gm
  zx : z ≠ x
  zg : z ≠ gm
  px : p ≠ x
  pg : p ≠ gm
  qx : q ≠ x
  qg : q ≠ gm
  wx : w.heap.size ≤ x
  wg : w.heap.size ≤ gm
theorem Bun3.ups {w W W' : World} {x y z p q : Nat} {G T : Rg} {sx sy sz : St} (h : Bun3 w x y z p q G T sx sy sz W) (u : Up W W') : Bun3 w x y z p q G T sx sy sz W' :=
  ⟨h.cx.up u, h.cy.up u, h.cz.up u, h.reg.up u, h.tg.up u, h.up.trans u, h.lb.up u⟩
theorem Bun3.rot {w W : World} {x y z p q : Nat} {G T : Rg} {sx sy sz : St} (h : Bun3 w x y z p q G T sx sy sz W) : Bun3 w y z x p q G T sy sz sx W :=
  ⟨h.cy, h.cz, h.cx, h.reg, h.tg, h.up, h.lb⟩
theorem Bun3.new {w W W' : World} {x y z p q q' : Nat} {G T T' : Rg} {sx sy sz : St} (h : Bun3 w x y z p q G T sx sy sz W) (u : Up W W') (h' : RgAt W' q' T') : Bun3 w x y z p q' G T' sx sy sz W' :=
  ⟨h.cx.up u, h.cy.up u, h.cz.up u, h.reg.up u, h', h.up.trans u, h.lb.up u⟩
theorem Bun3.row {w W W' : World} {x y z p q : Nat} {G T : Rg} {sx sy sz : St} (T' : Rg) (h : Bun3 w x y z p q G T sx sy sz W) (e : W.setRow q T'.cells = W') (hx : x ≠ q) (hy : y ≠ q) (hz : z ≠ q) (hp : p ≠ q) (h0 : q ≠ 0) (hw : w.heap.size ≤ q) : Bun3 w x y z p q G T' sx sy sz W' := by
  have F : Fr q W W' := by rw [← e]; exact frRow' _ _ _
  exact ⟨Cp.fr1' h.cx F hx, Cp.fr1' h.cy F hy, Cp.fr1' h.cz F hz, RgAt.fr1' h.reg F hp, by rw [← e]; exact setRow_heap _ _ _ _ _ _ h.tg, Fr.up h.up hw F, h.lb.fr F h0⟩
theorem Cp.fr2' {w w' : World} {b c g : Nat} {s : St} (h : Cp w b s) (u : Fr2 c g w w') (hc : b ≠ c) (hg : b ≠ g) : Cp w' b s := (u.block b h.lt hc hg).trans h
theorem b3_run {w W : World} {x y z gm p q : Nat} {G T : Rg} {sy sz : St} (n : Nat) (hn : n ≤ 1000) (st : Nat → Pm) (kc : Nat → Nat) (hc : ∀ i, i < n → Ins (st i) (kc i) (st (i + 1))) (hk7 : ∀ i, kc i ≤ 7)
    (h : Bun3 w x y z p q G T (st 0).1 sy sz W) (m : Mem W gm (st 0).2) (k : Bk3 w x y z gm p q) (v : (st 0).1.Inv) (hf : Byt (st 0).2) :
    Calls Tryz.prog 18 #[.pointer (some ⟨x, 0, none⟩), .slice (some ⟨gm, 0, none⟩) 65536 65536, .int .i64 n] W fun e w' => e = .returned (.tuple #[.int .i64 (tot kc n), .bool true]) ∧ Bun3 w x y z p q G T (st n).1 sy sz w' :=
  (runs_any n hn st kc x gm W h.cx v ⟨h.lb, k.x0⟩ m hf k.gx k.g0 hc hk7).mono fun e w' ⟨he, hcp, hm, hF⟩ => ⟨he, ⟨hcp, Cp.fr2' h.cy hF k.yx k.yg, Cp.fr2' h.cz hF k.zx k.zg, h.reg.fr2 hF k.px k.pg, h.tg.fr2 hF k.qx k.qg, Fr2.up h.up k.wx k.wg hF, by
    refine ⟨Nat.lt_of_lt_of_le h.lb.1 hF.size, fun i hi => ?_⟩
    rw [← h.lb.2 i hi]
    exact Fr2.cellq hF h.lb.1 (fun e => k.x0 e.symm) (fun e => k.g0 e.symm)⟩⟩
theorem b3_one {w W : World} {x y z gm p q : Nat} {G T : Rg} {sy sz : St} {P Q : Pm} {n : Nat} (hI : Ins P n Q)
    (h : Bun3 w x y z p q G T P.1 sy sz W) (m : Mem W gm P.2) (k : Bk3 w x y z gm p q) (v : P.1.Inv) (hf : Byt P.2) :
    Calls Tryz.prog 18 #[.pointer (some ⟨x, 0, none⟩), .slice (some ⟨gm, 0, none⟩) 65536 65536, .int .i64 1] W fun e w' => e = .returned (.tuple #[.int .i64 n, .bool true]) ∧ Bun3 w x y z p q G T Q.1 sy sz w' := by
  have := b3_run 1 (by decide) (fun i => if i = 0 then P else Q) (fun _ => n) (fun i hi => by
    have : i = 0 := by omega
    subst this
    exact hI) (fun _ => hI.k7) h m k v hf
  refine this.mono ?_
  rintro e w' ⟨rfl, h1⟩
  refine ⟨?_, h1⟩
  show _ = Ending.returned (.tuple #[.int .i64 n, .bool true])
  rw [show tot (fun _ => n) 1 = n by show 0 + n = n; omega]
theorem b3_two {w W : World} {x y z gm p q : Nat} {G T : Rg} {sy sz : St} {P Q R : Pm} {n k' : Nat} (hI : Ins P n Q) (hJ : Ins Q k' R)
    (h : Bun3 w x y z p q G T P.1 sy sz W) (m : Mem W gm P.2) (k : Bk3 w x y z gm p q) (v : P.1.Inv) (hf : Byt P.2) :
    Calls Tryz.prog 18 #[.pointer (some ⟨x, 0, none⟩), .slice (some ⟨gm, 0, none⟩) 65536 65536, .int .i64 2] W fun e w' => (∃ c, e = .returned (.tuple #[.int .i64 c, .bool true])) ∧ Bun3 w x y z p q G T R.1 sy sz w' := by
  have := b3_run 2 (by decide) (fun i => if i = 0 then P else if i = 1 then Q else R) (fun i => if i = 0 then n else k') (fun i hi => by
    have : i = 0 ∨ i = 1 := by omega
    rcases this with rfl | rfl
    · exact hI
    · exact hJ) (fun i => by show (if i = 0 then n else k') ≤ 7; split; exact hI.k7; exact hJ.k7) h m k v hf
  exact this.mono fun e w' ⟨h1, h2⟩ => ⟨⟨_, h1⟩, h2⟩
theorem b3_regs {w W : World} {x y z p q : Nat} {G T : Rg} {sx sy sz : St} (h : Bun3 w x y z p q G T sx sy sz W) (v : sx.Inv) :
    Calls Tryz.prog 19 #[.pointer (some ⟨x, 0, none⟩)] W fun e w' => e = .returned (.agg (toRg sx).cells) ∧ Bun3 w x y z p q G T sx sy sz w' ∧ Up W w' :=
  (regs_any x sx W h.cx v.ok).mono fun e w' ⟨he, hu⟩ => ⟨he, h.ups hu, hu⟩
end Go.Proofs.YtbfjihcnnefehaaGreatDoor
