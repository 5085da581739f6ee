/- Cart: CartSaves: two cartridges and what was told of one. -/
import Derived.Test.YtkcmhojninhhoaaDoorCbM
namespace Go.Proofs.YtkcmhojninhhoaaDoor
open Go.Shelf Go.RowKit
set_option linter.unusedVariables false
set_option linter.unusedSimpArgs false
variable {w w' W : World} {g N kd RN lo hi lo2 hi2 tg sg : Nat} {F : Nat → Int} {A A2 : Ad} {D X Y : Ct}
/-- two cartridges; the state and the save of a third that was -/
structure Tri (W : World) (g N : Nat) (F : Nat → Int) (kd RN lo hi lo2 hi2 tg sg : Nat) (A A2 : Ad) (D X Y : Ct) (w : World) : Prop where
  x : Cz lo hi A X w
  y : Cz lo2 hi2 A2 Y w
  db : D.Base kd RN N F
  xb : X.Base kd RN N F
  yb : Y.Base kd RN N F
  ok : D.Ok
  std : D.m.Std
  st : By w tg (5 + RN) D.st
  sv : By w sg RN D.rf
  rom : By w g N F
  up : Up W w
  o1 : W.heap.size ≤ lo
  o2 : g < lo
  o3 : hi ≤ sg
  o4 : sg < lo2
  o6 : hi2 ≤ tg
  lh : lo ≤ hi
  r1 : 1 ≤ RN
theorem Tri.more (h : Tri W g N F kd RN lo hi lo2 hi2 tg sg A A2 D X Y w) (u : Up w w') : Tri W g N F kd RN lo hi lo2 hi2 tg sg A A2 D X Y w' :=
  ⟨h.x.up u, h.y.up u, h.db, h.xb, h.yb, h.ok, h.std, h.st.up u, h.sv.up u, h.rom.up u, h.up.trans u, h.o1, h.o2, h.o3, h.o4, h.o6, h.lh, h.r1⟩
/-- Load of the state, whoever it is -/
theorem load_st {sc : Nat} (hc : Cz lo hi A X w) (db : D.Base kd RN N F) (xb : X.Base kd RN N F) (ok : D.Ok) (std : D.m.Std) (st : By w tg (5 + RN) D.st) (h1 : 5 + RN ≤ sc) (h2 : sc ≤ maxLen) (r1 : 1 ≤ RN) (d : Off lo hi tg) : Calls Tryd.prog 20 #[.pointer (some ⟨A.cb, 0, none⟩), .slice (some ⟨tg, 0, none⟩) (5 + RN) sc] w fun e w' => e = .returned (.int .i64 0) ∧ Cz lo hi A (X.loaded D.st) w' ∧ FK (Off lo hi) w w' := by
  have hkp : X.m.kp = D.m.kp := by unfold Mp.kp; rw [xb.kd, db.kd]
  refine hc.loadOk (st.byts h1 h2 (fun k => Ct.st_u8 ok std k)) (by rw [xb.rm]) (by rw [xb.rm]; exact r1) (fun k hk => ?_) (Ct.st_reg std (by rw [xb.kd, db.kd])) d
  rw [Ct.st_ram, hkp]
  exact (ok k).2
theorem Tri.loadY {sc : Nat} (h : Tri W g N F kd RN lo hi lo2 hi2 tg sg A A2 D X Y w) (h1 : 5 + RN ≤ sc) (h2 : sc ≤ maxLen) : Calls Tryd.prog 20 #[.pointer (some ⟨A2.cb, 0, none⟩), .slice (some ⟨tg, 0, none⟩) (5 + RN) sc] w fun e w' => e = .returned (.int .i64 0) ∧ Tri W g N F kd RN lo hi lo2 hi2 tg sg A A2 D X (Y.loaded D.st) w' := by
  have q1 := h.o1; have q2 := h.o2; have q3 := h.o3; have q4 := h.o4; have q6 := h.o6; have ql := h.lh
  refine (load_st h.y h.db h.yb h.ok h.std h.st h1 h2 h.r1 (Or.inr h.o6)).mono fun e w' ⟨e1, c, f⟩ => ⟨e1, ?_⟩
  exact ⟨h.x.keep f (fun k _ hk => Or.inl (by omega)), c, h.db, h.xb, h.yb.loaded _, h.ok, h.std, h.st.of_block (f.block tg h.st.lt (Or.inr h.o6)), h.sv.of_block (f.block sg h.sv.lt (Or.inl h.o4)), h.rom.of_block (f.block g h.rom.lt (Or.inl (by omega))), up_off h.up f (by omega), h.o1, h.o2, h.o3, h.o4, h.o6, h.lh, h.r1⟩
theorem Tri.loadX {sc : Nat} (h : Tri W g N F kd RN lo hi lo2 hi2 tg sg A A2 D X Y w) (h1 : 5 + RN ≤ sc) (h2 : sc ≤ maxLen) : Calls Tryd.prog 20 #[.pointer (some ⟨A.cb, 0, none⟩), .slice (some ⟨tg, 0, none⟩) (5 + RN) sc] w fun e w' => e = .returned (.int .i64 0) ∧ Tri W g N F kd RN lo hi lo2 hi2 tg sg A A2 D (X.loaded D.st) Y w' := by
  have q1 := h.o1; have q2 := h.o2; have q3 := h.o3; have q4 := h.o4; have q6 := h.o6; have ql := h.lh
  have l2 := h.y.l1
  refine (load_st h.x h.db h.xb h.ok h.std h.st h1 h2 h.r1 (Or.inr (by omega))).mono fun e w' ⟨e1, c, f⟩ => ⟨e1, ?_⟩
  exact ⟨c, h.y.keep f (fun k hk _ => Or.inr (by omega)), h.db, h.xb.loaded _, h.yb, h.ok, h.std, h.st.of_block (f.block tg h.st.lt (Or.inr (by omega))), h.sv.of_block (f.block sg h.sv.lt (Or.inr h.o3)), h.rom.of_block (f.block g h.rom.lt (Or.inl h.o2)), up_off h.up f h.o1, h.o1, h.o2, h.o3, h.o4, h.o6, h.lh, h.r1⟩
/-- .. and a third -/
structure Qua (W : World) (g N : Nat) (F : Nat → Int) (kd RN lo hi lo2 hi2 lo3 hi3 tg sg : Nat) (A A2 A3 : Ad) (D X Y Z : Ct) (w : World) : Prop where
  t : Tri W g N F kd RN lo hi lo2 hi2 tg sg A A2 D X Y w
  z : Cz lo3 hi3 A3 Z w
  zb : Z.Base kd RN N F
  o : tg < lo3
variable {lo3 hi3 : Nat} {A3 : Ad} {Z : Ct}
theorem Qua.more (h : Qua W g N F kd RN lo hi lo2 hi2 lo3 hi3 tg sg A A2 A3 D X Y Z w) (u : Up w w') : Qua W g N F kd RN lo hi lo2 hi2 lo3 hi3 tg sg A A2 A3 D X Y Z w' := ⟨h.t.more u, h.z.up u, h.zb, h.o⟩
theorem Qua.loadZ {sc : Nat} (h : Qua W g N F kd RN lo hi lo2 hi2 lo3 hi3 tg sg A A2 A3 D X Y Z w) (h1 : 5 + RN ≤ sc) (h2 : sc ≤ maxLen) : Calls Tryd.prog 20 #[.pointer (some ⟨A3.cb, 0, none⟩), .slice (some ⟨tg, 0, none⟩) (5 + RN) sc] w fun e w' => e = .returned (.int .i64 0) ∧ Qua W g N F kd RN lo hi lo2 hi2 lo3 hi3 tg sg A A2 A3 D X Y (Z.loaded D.st) w' := by
  have q1 := h.t.o1; have q2 := h.t.o2; have q3 := h.t.o3; have q4 := h.t.o4; have q6 := h.t.o6; have ql := h.t.lh; have qo := h.o
  have l2 := h.t.y.l1
  refine (load_st h.z h.t.db h.zb h.t.ok h.t.std h.t.st h1 h2 h.t.r1 (Or.inl h.o)).mono fun e w' ⟨e1, c, f⟩ => ⟨e1, ?_⟩
  have t := h.t
  exact ⟨⟨t.x.keep f (fun k _ hk => Or.inl (by omega)), t.y.keep f (fun k _ hk => Or.inl (by omega)), t.db, t.xb, t.yb, t.ok, t.std, t.st.of_block (f.block tg t.st.lt (Or.inl h.o)), t.sv.of_block (f.block sg t.sv.lt (Or.inl (by omega))), t.rom.of_block (f.block g t.rom.lt (Or.inl (by omega))), up_off t.up f (by omega), t.o1, t.o2, t.o3, t.o4, t.o6, t.lh, t.r1⟩, c, h.zb.loaded _, h.o⟩
/-- all alike -/
structure Four (W : World) (RN tg sg : Nat) (A A2 A3 : Ad) (D : Ct) (w : World) : Prop where
  x : ∃ lo hi X, Cz lo hi A X w ∧ Alike D X
  y : ∃ lo hi Y, Cz lo hi A2 Y w ∧ Alike D Y ∧ Y.bat = true
  z : ∃ lo hi Z, Cz lo hi A3 Z w ∧ Alike D Z
  st : By w tg (5 + RN) D.st
  sv : By w sg RN D.rf
  up : Up W w
  rm : D.rm = RN
  ok : D.Ok
  std : D.m.Std
theorem Four.more {RN tg sg : Nat} (h : Four W RN tg sg A A2 A3 D w) (u : Up w w') : Four W RN tg sg A A2 A3 D w' := by
  obtain ⟨⟨a1, a2, a3, a4, a5⟩, ⟨b1, b2, b3, b4, b5⟩, ⟨c1, c2, c3, c4, c5⟩, d, e, f, g1, g2, g3⟩ := h
  exact ⟨⟨a1, a2, a3, a4.up u, a5⟩, ⟨b1, b2, b3, b4.up u, b5⟩, ⟨c1, c2, c3, c4.up u, c5⟩, d.up u, e.up u, f.trans u, g1, g2, g3⟩
theorem Qua.four (h : Qua W g N F kd RN lo hi lo2 hi2 lo3 hi3 tg sg A A2 A3 D (X.loaded D.st) (Y.loaded D.st) (Z.loaded D.st) w) (hx : X.Base kd RN N F) (hy : Y.Base kd RN N F) (hz : Z.Base kd RN N F) : Four W RN tg sg A A2 A3 D w :=
  ⟨⟨_, _, _, h.t.x, alike_loaded h.t.db hx⟩, ⟨_, _, _, h.t.y, alike_loaded h.t.db hy, hy.bat⟩, ⟨_, _, _, h.z, alike_loaded h.t.db hz⟩, h.t.st, h.t.sv, h.t.up, h.t.db.rm, h.t.ok, h.t.std⟩
theorem Four.readX {a : Int} (h : Four W RN tg sg A A2 A3 D w) : Calls Tryd.prog 17 #[.pointer (some ⟨A.cb, 0, none⟩), .int .i64 a] w fun e w' => e = .returned (.int .u8 (D.rd a)) ∧ Up w w' := by
  obtain ⟨lo, hi, X, c, l⟩ := h.x
  rw [l.rd]
  exact c.read
theorem Four.readY {a : Int} (h : Four W RN tg sg A A2 A3 D w) : Calls Tryd.prog 17 #[.pointer (some ⟨A2.cb, 0, none⟩), .int .i64 a] w fun e w' => e = .returned (.int .u8 (D.rd a)) ∧ Up w w' := by
  obtain ⟨lo, hi, X, c, l, _⟩ := h.y
  rw [l.rd]
  exact c.read
theorem Four.readZ {a : Int} (h : Four W RN tg sg A A2 A3 D w) : Calls Tryd.prog 17 #[.pointer (some ⟨A3.cb, 0, none⟩), .int .i64 a] w fun e w' => e = .returned (.int .u8 (D.rd a)) ∧ Up w w' := by
  obtain ⟨lo, hi, X, c, l⟩ := h.z
  rw [l.rd]
  exact c.read
/-- a list that reads as another -/
def Told (W : World) (n : Nat) (f : Nat → Int) (e : Ending) (w' : World) : Prop := ∃ g' cap' h, e = .returned (.slice (some ⟨g', 0, none⟩) n cap') ∧ Byts w' (some ⟨g', 0, none⟩) g' 0 n cap' h ∧ (∀ k, k < n → h k = f k) ∧ Up W w'
theorem Four.stateZ (h : Four W RN tg sg A A2 A3 D w) : Calls Tryd.prog 22 #[.pointer (some ⟨A3.cb, 0, none⟩)] w (Told w (5 + RN) D.st) := by
  obtain ⟨lo, hi, X, c, l⟩ := h.z
  refine c.state.mono ?_
  rintro e w' ⟨g', cap', rfl, h1, h2, h3, h4, h5⟩
  have er : X.rm = RN := l.rm.symm.trans h.rm
  rw [er] at h2 h3 ⊢
  exact ⟨g', cap', X.st, rfl, h2.byts h3 h4 (fun k => Ct.st_u8 c.ok c.std k), fun k hk => (l.st k (by rw [h.rm]; exact hk)).symm, h5⟩
theorem Four.saveY (h : Four W RN tg sg A A2 A3 D w) : Calls Tryd.prog 24 #[.pointer (some ⟨A2.cb, 0, none⟩)] w (Told w RN D.rf) := by
  obtain ⟨lo, hi, X, c, l, hb⟩ := h.y
  refine (c.save hb).mono ?_
  rintro e w' ⟨g', cap', rfl, h1, h2, h3, h4, h5⟩
  have er : X.rm = RN := l.rm.symm.trans h.rm
  rw [er] at h2 h3 ⊢
  exact ⟨g', cap', X.rf, rfl, h2.byts h3 h4 (fun k => c.ok.u8 k), fun k hk => (l.rf k (by rw [h.rm]; exact hk)).symm, h5⟩
end Go.Proofs.YtkcmhojninhhoaaDoor
