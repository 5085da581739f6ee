import Derived.Test.YtojlappgmckokaaDoorXmM
import Derived.Test.YtojlappgmckokaaDoorXmN
import Derived.Test.YtojlappgmckokaaDoorXmL
import Derived.Test.YtojlappgmckokaaDoorXmF
/- Cart: steps of a pair: Read, Write, Header and none. -/
namespace Go.Proofs.YtojlappgmckokaaDoor
open Go.Shelf Go.RowKit
set_option linter.unusedVariables false
set_option linter.unusedSimpArgs false
variable {w w' W : World} {pb lo hi n H ob : Nat} {Q : Qk} {A : Ad} {Y : Yd} {C D C' D' : Ct} {S : Nat → Prop} {L : Bd} {f hf : Nat → Int} {v u : Value} {a b c kd : Int}
/-- what a step leaves: a pair of the same cartridge -/
def Sp (W : World) (Q : Qk) (pb lo hi : Nat) (A : Ad) (Y : Yd) (N : Nat) (w : World) : Prop := ∃ C S L H hf, Pw W Q pb lo hi A Y C C S L H hf w ∧ L.es.length ≤ N
def StepAns (W : World) (Q : Qk) (pb lo hi : Nat) (A : Ad) (Y : Yd) (N : Nat) (e : Ending) (w' : World) : Prop := e = .returned (.bool true) ∧ Sp W Q pb lo hi A Y N w'
/-- the step that is asked for, in memory -/
structure OpAt (pb ob : Nat) (kd a b c : Int) (w : World) : Prop where
  blk : w.heap[ob]? = some (.cells #[.int .i64 kd, .int .i64 a, .int .i64 b, .int .i64 c] 52 (0, 0))
  hi : pb < ob
theorem OpAt.up (h : OpAt pb ob kd a b c w) (u : Up w w') : OpAt pb ob kd a b c w' := ⟨(u.block _ (heap_at h.blk)).trans h.blk, h.hi⟩
theorem OpAt.keep {K : Nat → Prop} (h : OpAt pb ob kd a b c w) (q : FK K w w') (hk : K ob) : OpAt pb ob kd a b c w' := ⟨(q.block _ (heap_at h.blk) hk).trans h.blk, h.hi⟩
theorem OpAt.fa (h : OpAt pb ob kd a b c w) : w.cell? ⟨ob, 1, none⟩ = some (.int .i64 a) := heap_cell h.blk rfl
theorem OpAt.fb (h : OpAt pb ob kd a b c w) : w.cell? ⟨ob, 2, none⟩ = some (.int .i64 b) := heap_cell h.blk rfl
theorem OpAt.fc (h : OpAt pb ob kd a b c w) : w.cell? ⟨ob, 3, none⟩ = some (.int .i64 c) := heap_cell h.blk rfl
/-- a pair and the step -/
structure Po (W : World) (Q : Qk) (pb lo hi : Nat) (A : Ad) (Y : Yd) (C D : Ct) (S : Nat → Prop) (L : Bd) (H : Nat) (hf : Nat → Int) (ob : Nat) (kd a b c : Int) (w : World) : Prop where
  p : Pw W Q pb lo hi A Y C D S L H hf w
  o : OpAt pb ob kd a b c w
theorem Po.up (h : Po W Q pb lo hi A Y C D S L H hf ob kd a b c w) (u : Up w w') : Po W Q pb lo hi A Y C D S L H hf ob kd a b c w' := ⟨h.p.upW u, h.o.up u⟩
theorem Po.chX (h : Po W Q pb lo hi A Y C D S L H hf ob kd a b c w) (x : Cz lo hi A C' w') (q : FK (Off lo hi) w w') (hb : C'.bat = true → 1 ≤ C'.rm) : Po W Q pb lo hi A Y C' D S L H hf ob kd a b c w' := ⟨h.p.chX x q hb, h.o.keep q (Or.inr (by have := h.p.lh; have := h.o.hi; omega))⟩
theorem Po.chY (h : Po W Q pb lo hi A Y C D S L H hf ob kd a b c w) (y : RtAt w' Y D') (q : FK Y.K w w') : Po W Q pb lo hi A Y C D' S L H hf ob kd a b c w' := ⟨h.p.chY y q, h.o.keep q (by have := h.p.y1; have := h.p.y3; have := h.o.hi; exact ⟨by omega, by omega⟩)⟩
theorem Pw.start (h : Pw W Q pb lo hi A Y C D S L H hf w) (kd a b c : Int) : Po W Q pb lo hi A Y C D S L H hf w.heap.size kd a b c (w.alloc (.cells #[.int .i64 kd, .int .i64 a, .int .i64 b, .int .i64 c] 52)) := ⟨h.upW ((Up.refl w).alloc _), heap_alloc_new w _, h.lh.2.2.1⟩
set_option maxRecDepth 100000 in
set_option maxHeartbeats 2000000 in
theorem stepRead (h : Pw W Q pb lo hi A Y C C S L H hf w) (hN : L.es.length ≤ 10000000) : Calls Tryd.prog 26 #[.pointer (some ⟨pb, 0, none⟩), .agg #[.int .i64 1, .int .i64 a, .int .i64 b, .int .i64 c]] w (StepAns W Q pb lo hi A Y (L.es.length + 12)) := by
  have HP0 : Hid _ := h.start (1) a b c
  clear h
  go_enter Tryd.func26, Tryd.ntmps26
  go_wp2_with fail
  generalize World.alloc w _ = w0 at HP0 ⊢
  generalize w.heap.size = ob at HP0 ⊢
  refine wp_region_held_drew (S := fun w => (w.cell? ⟨pb, 0, none⟩ = some (.pointer (some ⟨A.cb, 0, none⟩))) ∧ (w.cell? ⟨ob, 1, none⟩ = some (.int .i64 a))) (by kernel_rfl) ⟨HP0.out.p.c0, HP0.out.o.fa⟩ (fun hHeld => ?_)
  have HPd : Hid _ := HP0.out.up ((Up.refl w0).drew)
  clear HP0
  generalize World.drew w0 = wd at HPd hHeld ⊢
  refine wpAnyH_take (i := 0) (v := ?_) (by simp only [List.getElem?_toArray, List.getElem?_cons_zero]; rfl) (by kernel_rfl) (by kernel_rfl) (by kernel_rfl) (by intro _ _ _ h; exact h) (Or.inl ⟨by rfl, ?_⟩) (by assumption) ?_
  rotate_left
  · (intro w hSw; (try dsimp only at hSw); obtain ⟨hS0, hS1⟩ := hSw; go_simp <;> with_reducible rfl)
  try simp only [Act.put, List.setIfInBounds_toArray, List.set_cons_zero, List.set_cons_succ]
  refine wpAnyH_take (i := 1) (v := ?_) (by simp only [List.getElem?_toArray, List.getElem?_cons_succ, List.getElem?_cons_zero]; rfl) (by kernel_rfl) (by kernel_rfl) (by kernel_rfl) (by intro _ _ _ h; exact h) (Or.inl ⟨by rfl, ?_⟩) (by assumption) ?_
  rotate_left
  · (intro w hSw; (try dsimp only at hSw); obtain ⟨hS0, hS1⟩ := hSw; go_simp <;> with_reducible rfl)
  try simp only [Act.put, List.setIfInBounds_toArray, List.set_cons_zero, List.set_cons_succ]
  refine wpAnyH_take (i := 2) (v := ?_) (by simp only [List.getElem?_toArray, List.getElem?_cons_succ, List.getElem?_cons_zero]; rfl) (by kernel_rfl) (by kernel_rfl) (by kernel_rfl) (by intro _ _ _ h; exact h) (Or.inl ⟨by rfl, ?_⟩) (by assumption) ?_
  rotate_left
  · (intro w hSw; (try dsimp only at hSw); obtain ⟨hS0, hS1⟩ := hSw; go_simp <;> with_reducible rfl)
  try simp only [Act.put, List.setIfInBounds_toArray, List.set_cons_zero, List.set_cons_succ]
  refine wpAnyH_take (i := 3) (v := ?_) (by simp only [List.getElem?_toArray, List.getElem?_cons_succ, List.getElem?_cons_zero]; rfl) (by kernel_rfl) (by kernel_rfl) (by kernel_rfl) (by intro _ _ _ h; exact h) (Or.inl ⟨by rfl, ?_⟩) (by assumption) ?_
  rotate_left
  · (intro w hSw; (try dsimp only at hSw); obtain ⟨hS0, hS1⟩ := hSw; go_simp <;> with_reducible rfl)
  try simp only [Act.put, List.setIfInBounds_toArray, List.set_cons_zero, List.set_cons_succ]
  refine wpAnyH_take (i := 4) (v := ?_) (by simp only [List.getElem?_toArray, List.getElem?_cons_succ, List.getElem?_cons_zero]; rfl) (by kernel_rfl) (by kernel_rfl) (by kernel_rfl) (by intro _ _ _ h; exact h) (Or.inl ⟨by rfl, ?_⟩) (by assumption) ?_
  rotate_left
  · (intro w hSw; (try dsimp only at hSw); obtain ⟨hS0, hS1⟩ := hSw; go_simp <;> with_reducible rfl)
  try simp only [Act.put, List.setIfInBounds_toArray, List.set_cons_zero, List.set_cons_succ]
  refine wpAnyH_take (i := 5) (v := ?_) (by simp only [List.getElem?_toArray, List.getElem?_cons_succ, List.getElem?_cons_zero]; rfl) (by kernel_rfl) (by kernel_rfl) (by kernel_rfl) (by intro _ _ _ h; exact h) (Or.inl ⟨by rfl, ?_⟩) (by assumption) ?_
  rotate_left
  · (intro w hSw; (try dsimp only at hSw); obtain ⟨hS0, hS1⟩ := hSw; go_simp <;> with_reducible rfl)
  try simp only [Act.put, List.setIfInBounds_toArray, List.set_cons_zero, List.set_cons_succ]
  refine wpAnyH_ready (rs := [6]) (by kernel_rfl) (by simp) ?_
  refine AllReadyH.cons (by simp only [List.getElem?_toArray, List.getElem?_cons_succ, List.getElem?_cons_zero]; rfl) (fun KK hK => ?_) AllReadyH.nil
  go_simp
  refine Calls.mono (HPd.out.p.x.read (a := a)) ?_
  rintro e w1 ⟨rfl, u1⟩
  have HP1 : Hid _ := HPd.out.up u1
  clear u1
  refine hK.out _ _ ⟨HP1.out.p.c0, HP1.out.o.fa⟩ (fun hHeld => ?_)
  clear hK KK HPd
  try simp only [Act.put, List.setIfInBounds_toArray, List.set_cons_zero, List.set_cons_succ]
  refine wpAnyH_take (i := 7) (v := ?_) (by simp only [List.getElem?_toArray, List.getElem?_cons_succ, List.getElem?_cons_zero]; rfl) (by kernel_rfl) (by kernel_rfl) (by kernel_rfl) (by intro _ _ _ h; exact h) (Or.inl ⟨by rfl, ?_⟩) (by assumption) ?_
  rotate_left
  · (intro w hSw; (try dsimp only at hSw); obtain ⟨hS0, hS1⟩ := hSw; go_simp <;> with_reducible rfl)
  try simp only [Act.put, List.setIfInBounds_toArray, List.set_cons_zero, List.set_cons_succ]
  refine wpAnyH_done (by kernel_rfl) ?_ _
  clear hHeld
  go_wp2_with fail
  refine wp_region_held_drew (S := fun w => (w.cell? ⟨pb, 1, none⟩ = some (.pointer (some ⟨Y.yb, 0, none⟩))) ∧ (w.cell? ⟨ob, 1, none⟩ = some (.int .i64 a))) (by kernel_rfl) ⟨HP1.out.p.c1, HP1.out.o.fa⟩ (fun hHeld => ?_)
  have HPd : Hid _ := HP1.out.up ((Up.refl w1).drew)
  clear HP1
  generalize World.drew w1 = wd at HPd hHeld ⊢
  refine wpAnyH_take (i := 0) (v := ?_) (by simp only [List.getElem?_toArray, List.getElem?_cons_zero]; rfl) (by kernel_rfl) (by kernel_rfl) (by kernel_rfl) (by intro _ _ _ h; exact h) (Or.inl ⟨by rfl, ?_⟩) (by assumption) ?_
  rotate_left
  · (intro w hSw; (try dsimp only at hSw); obtain ⟨hS0, hS1⟩ := hSw; go_simp <;> with_reducible rfl)
  try simp only [Act.put, List.setIfInBounds_toArray, List.set_cons_zero, List.set_cons_succ]
  refine wpAnyH_take (i := 1) (v := ?_) (by simp only [List.getElem?_toArray, List.getElem?_cons_succ, List.getElem?_cons_zero]; rfl) (by kernel_rfl) (by kernel_rfl) (by kernel_rfl) (by intro _ _ _ h; exact h) (Or.inl ⟨by rfl, ?_⟩) (by assumption) ?_
  rotate_left
  · (intro w hSw; (try dsimp only at hSw); obtain ⟨hS0, hS1⟩ := hSw; go_simp <;> with_reducible rfl)
  try simp only [Act.put, List.setIfInBounds_toArray, List.set_cons_zero, List.set_cons_succ]
  refine wpAnyH_take (i := 2) (v := ?_) (by simp only [List.getElem?_toArray, List.getElem?_cons_succ, List.getElem?_cons_zero]; rfl) (by kernel_rfl) (by kernel_rfl) (by kernel_rfl) (by intro _ _ _ h; exact h) (Or.inl ⟨by rfl, ?_⟩) (by assumption) ?_
  rotate_left
  · (intro w hSw; (try dsimp only at hSw); obtain ⟨hS0, hS1⟩ := hSw; go_simp <;> with_reducible rfl)
  try simp only [Act.put, List.setIfInBounds_toArray, List.set_cons_zero, List.set_cons_succ]
  refine wpAnyH_take (i := 3) (v := ?_) (by simp only [List.getElem?_toArray, List.getElem?_cons_succ, List.getElem?_cons_zero]; rfl) (by kernel_rfl) (by kernel_rfl) (by kernel_rfl) (by intro _ _ _ h; exact h) (Or.inl ⟨by rfl, ?_⟩) (by assumption) ?_
  rotate_left
  · (intro w hSw; (try dsimp only at hSw); obtain ⟨hS0, hS1⟩ := hSw; go_simp <;> with_reducible rfl)
  try simp only [Act.put, List.setIfInBounds_toArray, List.set_cons_zero, List.set_cons_succ]
  refine wpAnyH_take (i := 4) (v := ?_) (by simp only [List.getElem?_toArray, List.getElem?_cons_succ, List.getElem?_cons_zero]; rfl) (by kernel_rfl) (by kernel_rfl) (by kernel_rfl) (by intro _ _ _ h; exact h) (Or.inl ⟨by rfl, ?_⟩) (by assumption) ?_
  rotate_left
  · (intro w hSw; (try dsimp only at hSw); obtain ⟨hS0, hS1⟩ := hSw; go_simp <;> with_reducible rfl)
  try simp only [Act.put, List.setIfInBounds_toArray, List.set_cons_zero, List.set_cons_succ]
  refine wpAnyH_take (i := 5) (v := ?_) (by simp only [List.getElem?_toArray, List.getElem?_cons_succ, List.getElem?_cons_zero]; rfl) (by kernel_rfl) (by kernel_rfl) (by kernel_rfl) (by intro _ _ _ h; exact h) (Or.inl ⟨by rfl, ?_⟩) (by assumption) ?_
  rotate_left
  · (intro w hSw; (try dsimp only at hSw); obtain ⟨hS0, hS1⟩ := hSw; go_simp <;> with_reducible rfl)
  try simp only [Act.put, List.setIfInBounds_toArray, List.set_cons_zero, List.set_cons_succ]
  refine wpAnyH_ready (rs := [6]) (by kernel_rfl) (by simp) ?_
  refine AllReadyH.cons (by simp only [List.getElem?_toArray, List.getElem?_cons_succ, List.getElem?_cons_zero]; rfl) (fun KK hK => ?_) AllReadyH.nil
  go_simp
  refine Calls.mono (readR_any (a := a) HPd.out.p.y) ?_
  rintro e w2 ⟨rfl, u1⟩
  have HP2 : Hid _ := HPd.out.up u1
  clear u1
  refine hK.out _ _ ⟨HP2.out.p.c1, HP2.out.o.fa⟩ (fun hHeld => ?_)
  clear hK KK HPd
  try simp only [Act.put, List.setIfInBounds_toArray, List.set_cons_zero, List.set_cons_succ]
  refine wpAnyH_take (i := 7) (v := ?_) (by simp only [List.getElem?_toArray, List.getElem?_cons_succ, List.getElem?_cons_zero]; rfl) (by kernel_rfl) (by kernel_rfl) (by kernel_rfl) (by intro _ _ _ h; exact h) (Or.inl ⟨by rfl, ?_⟩) (by assumption) ?_
  rotate_left
  · (intro w hSw; (try dsimp only at hSw); obtain ⟨hS0, hS1⟩ := hSw; go_simp <;> with_reducible rfl)
  try simp only [Act.put, List.setIfInBounds_toArray, List.set_cons_zero, List.set_cons_succ]
  refine wpAnyH_done (by kernel_rfl) ?_ _
  clear hHeld
  go_wp2_with fail
  go_ret
  exact ⟨by first | rfl | (simp; done), _, _, _, _, _, HP2.out.p, by omega⟩
theorem wr_bat (C : Ct) (a : Int) (x : Nat) : (C.wr a x).bat = C.bat ∧ (C.wr a x).rm = C.rm := by unfold Ct.wr Ct.put Ct.set; constructor <;> (repeat' split) <;> rfl
set_option maxRecDepth 100000 in
set_option maxHeartbeats 2000000 in
theorem stepWrite (h : Pw W Q pb lo hi A Y C C S L H hf w) (hN : L.es.length ≤ 10000000) : Calls Tryd.prog 26 #[.pointer (some ⟨pb, 0, none⟩), .agg #[.int .i64 2, .int .i64 a, .int .i64 b, .int .i64 c]] w (StepAns W Q pb lo hi A Y (L.es.length + 12)) := by
  have HP0 : Hid _ := h.start (2) a b c
  clear h
  go_enter Tryd.func26, Tryd.ntmps26
  go_wp2_with fail
  generalize World.alloc w _ = w0 at HP0 ⊢
  generalize w.heap.size = ob at HP0 ⊢
  obtain ⟨X, hX, hX2⟩ : ∃ X : Nat, b % 256 = (X : Int) ∧ X ≤ 255 := ⟨(b % 256).toNat, by omega, by omega⟩
  refine wp_region_held_drew (S := fun w => (w.cell? ⟨pb, 0, none⟩ = some (.pointer (some ⟨A.cb, 0, none⟩))) ∧ (w.cell? ⟨ob, 1, none⟩ = some (.int .i64 a)) ∧ (w.cell? ⟨ob, 2, none⟩ = some (.int .i64 b))) (by kernel_rfl) ⟨HP0.out.p.c0, HP0.out.o.fa, HP0.out.o.fb⟩ (fun hHeld => ?_)
  have HPd : Hid _ := HP0.out.up ((Up.refl w0).drew)
  clear HP0
  generalize World.drew w0 = wd at HPd hHeld ⊢
  refine wpAnyH_take (i := 0) (v := ?_) (by simp only [List.getElem?_toArray, List.getElem?_cons_zero]; rfl) (by kernel_rfl) (by kernel_rfl) (by kernel_rfl) (by intro _ _ _ h; exact h) (Or.inl ⟨by rfl, ?_⟩) (by assumption) ?_
  rotate_left
  · (intro w hSw; (try dsimp only at hSw); obtain ⟨hS0, hS1, hS2⟩ := hSw; go_simp <;> with_reducible rfl)
  try simp only [Act.put, List.setIfInBounds_toArray, List.set_cons_zero, List.set_cons_succ]
  refine wpAnyH_take (i := 1) (v := ?_) (by simp only [List.getElem?_toArray, List.getElem?_cons_succ, List.getElem?_cons_zero]; rfl) (by kernel_rfl) (by kernel_rfl) (by kernel_rfl) (by intro _ _ _ h; exact h) (Or.inl ⟨by rfl, ?_⟩) (by assumption) ?_
  rotate_left
  · (intro w hSw; (try dsimp only at hSw); obtain ⟨hS0, hS1, hS2⟩ := hSw; go_simp <;> with_reducible rfl)
  try simp only [Act.put, List.setIfInBounds_toArray, List.set_cons_zero, List.set_cons_succ]
  refine wpAnyH_take (i := 2) (v := ?_) (by simp only [List.getElem?_toArray, List.getElem?_cons_succ, List.getElem?_cons_zero]; rfl) (by kernel_rfl) (by kernel_rfl) (by kernel_rfl) (by intro _ _ _ h; exact h) (Or.inl ⟨by rfl, ?_⟩) (by assumption) ?_
  rotate_left
  · (intro w hSw; (try dsimp only at hSw); obtain ⟨hS0, hS1, hS2⟩ := hSw; go_simp <;> with_reducible rfl)
  try simp only [Act.put, List.setIfInBounds_toArray, List.set_cons_zero, List.set_cons_succ]
  refine wpAnyH_take (i := 3) (v := ?_) (by simp only [List.getElem?_toArray, List.getElem?_cons_succ, List.getElem?_cons_zero]; rfl) (by kernel_rfl) (by kernel_rfl) (by kernel_rfl) (by intro _ _ _ h; exact h) (Or.inl ⟨by rfl, ?_⟩) (by assumption) ?_
  rotate_left
  · (intro w hSw; (try dsimp only at hSw); obtain ⟨hS0, hS1, hS2⟩ := hSw; go_simp <;> with_reducible rfl)
  try simp only [Act.put, List.setIfInBounds_toArray, List.set_cons_zero, List.set_cons_succ]
  refine wpAnyH_take (i := 4) (v := ?_) (by simp only [List.getElem?_toArray, List.getElem?_cons_succ, List.getElem?_cons_zero]; rfl) (by kernel_rfl) (by kernel_rfl) (by kernel_rfl) (by intro _ _ _ h; exact h) (Or.inl ⟨by rfl, ?_⟩) (by assumption) ?_
  rotate_left
  · (intro w hSw; (try dsimp only at hSw); obtain ⟨hS0, hS1, hS2⟩ := hSw; go_simp <;> with_reducible rfl)
  try simp only [Act.put, List.setIfInBounds_toArray, List.set_cons_zero, List.set_cons_succ]
  refine wpAnyH_take (i := 5) (v := ?_) (by simp only [List.getElem?_toArray, List.getElem?_cons_succ, List.getElem?_cons_zero]; rfl) (by kernel_rfl) (by kernel_rfl) (by kernel_rfl) (by intro _ _ _ h; exact h) (Or.inl ⟨by rfl, ?_⟩) (by assumption) ?_
  rotate_left
  · (intro w hSw; (try dsimp only at hSw); obtain ⟨hS0, hS1, hS2⟩ := hSw; go_simp <;> with_reducible rfl)
  try simp only [Act.put, List.setIfInBounds_toArray, List.set_cons_zero, List.set_cons_succ]
  refine wpAnyH_take (i := 6) (v := ?_) (by simp only [List.getElem?_toArray, List.getElem?_cons_succ, List.getElem?_cons_zero]; rfl) (by kernel_rfl) (by kernel_rfl) (by kernel_rfl) (by intro _ _ _ h; exact h) (Or.inl ⟨by rfl, ?_⟩) (by assumption) ?_
  rotate_left
  · (intro w hSw; (try dsimp only at hSw); obtain ⟨hS0, hS1, hS2⟩ := hSw; go_simp <;> with_reducible rfl)
  try simp only [Act.put, List.setIfInBounds_toArray, List.set_cons_zero, List.set_cons_succ]
  refine wpAnyH_take (i := 7) (v := ?_) (by simp only [List.getElem?_toArray, List.getElem?_cons_succ, List.getElem?_cons_zero]; rfl) (by kernel_rfl) (by kernel_rfl) (by kernel_rfl) (by intro _ _ _ h; exact h) (Or.inl ⟨by rfl, ?_⟩) (by assumption) ?_
  rotate_left
  · (intro w hSw; (try dsimp only at hSw); obtain ⟨hS0, hS1, hS2⟩ := hSw; go_simp <;> with_reducible rfl)
  try simp only [Act.put, List.setIfInBounds_toArray, List.set_cons_zero, List.set_cons_succ]
  refine wpAnyH_take (i := 8) (v := ?_) (by simp only [List.getElem?_toArray, List.getElem?_cons_succ, List.getElem?_cons_zero]; rfl) (by kernel_rfl) (by kernel_rfl) (by kernel_rfl) (by intro _ _ _ h; exact h) (Or.inl ⟨by rfl, ?_⟩) (by assumption) ?_
  rotate_left
  · (intro w hSw; (try dsimp only at hSw); obtain ⟨hS0, hS1, hS2⟩ := hSw; go_simp <;> with_reducible rfl)
  try simp only [Act.put, List.setIfInBounds_toArray, List.set_cons_zero, List.set_cons_succ]
  refine wpAnyH_ready (rs := [9]) (by kernel_rfl) (by simp) ?_
  refine AllReadyH.cons (by simp only [List.getElem?_toArray, List.getElem?_cons_succ, List.getElem?_cons_zero]; rfl) (fun KK hK => ?_) AllReadyH.nil
  go_simp
  refine Calls.mono (by have q := HPd.out.p.x.write (a := a) hX2; rw [← hX] at q; exact q) ?_
  rintro e w1 ⟨rfl, z1, f1⟩
  have HP1 : Hid _ := HPd.out.chX z1 f1 (by rw [(wr_bat C a X).1, (wr_bat C a X).2]; exact HPd.out.p.hb)
  clear z1 f1
  refine hK.out _ _ ⟨HP1.out.p.c0, HP1.out.o.fa, HP1.out.o.fb⟩ (fun hHeld => ?_)
  clear hK KK HPd
  try simp only [Act.put, List.setIfInBounds_toArray, List.set_cons_zero, List.set_cons_succ]
  refine wpAnyH_done (by kernel_rfl) ?_ _
  clear hHeld
  go_wp2_with fail
  refine wp_region_held_drew (S := fun w => (w.cell? ⟨pb, 1, none⟩ = some (.pointer (some ⟨Y.yb, 0, none⟩))) ∧ (w.cell? ⟨ob, 1, none⟩ = some (.int .i64 a)) ∧ (w.cell? ⟨ob, 2, none⟩ = some (.int .i64 b))) (by kernel_rfl) ⟨HP1.out.p.c1, HP1.out.o.fa, HP1.out.o.fb⟩ (fun hHeld => ?_)
  have HPd : Hid _ := HP1.out.up ((Up.refl w1).drew)
  clear HP1
  generalize World.drew w1 = wd at HPd hHeld ⊢
  refine wpAnyH_take (i := 0) (v := ?_) (by simp only [List.getElem?_toArray, List.getElem?_cons_zero]; rfl) (by kernel_rfl) (by kernel_rfl) (by kernel_rfl) (by intro _ _ _ h; exact h) (Or.inl ⟨by rfl, ?_⟩) (by assumption) ?_
  rotate_left
  · (intro w hSw; (try dsimp only at hSw); obtain ⟨hS0, hS1, hS2⟩ := hSw; go_simp <;> with_reducible rfl)
  try simp only [Act.put, List.setIfInBounds_toArray, List.set_cons_zero, List.set_cons_succ]
  refine wpAnyH_take (i := 1) (v := ?_) (by simp only [List.getElem?_toArray, List.getElem?_cons_succ, List.getElem?_cons_zero]; rfl) (by kernel_rfl) (by kernel_rfl) (by kernel_rfl) (by intro _ _ _ h; exact h) (Or.inl ⟨by rfl, ?_⟩) (by assumption) ?_
  rotate_left
  · (intro w hSw; (try dsimp only at hSw); obtain ⟨hS0, hS1, hS2⟩ := hSw; go_simp <;> with_reducible rfl)
  try simp only [Act.put, List.setIfInBounds_toArray, List.set_cons_zero, List.set_cons_succ]
  refine wpAnyH_take (i := 2) (v := ?_) (by simp only [List.getElem?_toArray, List.getElem?_cons_succ, List.getElem?_cons_zero]; rfl) (by kernel_rfl) (by kernel_rfl) (by kernel_rfl) (by intro _ _ _ h; exact h) (Or.inl ⟨by rfl, ?_⟩) (by assumption) ?_
  rotate_left
  · (intro w hSw; (try dsimp only at hSw); obtain ⟨hS0, hS1, hS2⟩ := hSw; go_simp <;> with_reducible rfl)
  try simp only [Act.put, List.setIfInBounds_toArray, List.set_cons_zero, List.set_cons_succ]
  refine wpAnyH_take (i := 3) (v := ?_) (by simp only [List.getElem?_toArray, List.getElem?_cons_succ, List.getElem?_cons_zero]; rfl) (by kernel_rfl) (by kernel_rfl) (by kernel_rfl) (by intro _ _ _ h; exact h) (Or.inl ⟨by rfl, ?_⟩) (by assumption) ?_
  rotate_left
  · (intro w hSw; (try dsimp only at hSw); obtain ⟨hS0, hS1, hS2⟩ := hSw; go_simp <;> with_reducible rfl)
  try simp only [Act.put, List.setIfInBounds_toArray, List.set_cons_zero, List.set_cons_succ]
  refine wpAnyH_take (i := 4) (v := ?_) (by simp only [List.getElem?_toArray, List.getElem?_cons_succ, List.getElem?_cons_zero]; rfl) (by kernel_rfl) (by kernel_rfl) (by kernel_rfl) (by intro _ _ _ h; exact h) (Or.inl ⟨by rfl, ?_⟩) (by assumption) ?_
  rotate_left
  · (intro w hSw; (try dsimp only at hSw); obtain ⟨hS0, hS1, hS2⟩ := hSw; go_simp <;> with_reducible rfl)
  try simp only [Act.put, List.setIfInBounds_toArray, List.set_cons_zero, List.set_cons_succ]
  refine wpAnyH_take (i := 5) (v := ?_) (by simp only [List.getElem?_toArray, List.getElem?_cons_succ, List.getElem?_cons_zero]; rfl) (by kernel_rfl) (by kernel_rfl) (by kernel_rfl) (by intro _ _ _ h; exact h) (Or.inl ⟨by rfl, ?_⟩) (by assumption) ?_
  rotate_left
  · (intro w hSw; (try dsimp only at hSw); obtain ⟨hS0, hS1, hS2⟩ := hSw; go_simp <;> with_reducible rfl)
  try simp only [Act.put, List.setIfInBounds_toArray, List.set_cons_zero, List.set_cons_succ]
  refine wpAnyH_take (i := 6) (v := ?_) (by simp only [List.getElem?_toArray, List.getElem?_cons_succ, List.getElem?_cons_zero]; rfl) (by kernel_rfl) (by kernel_rfl) (by kernel_rfl) (by intro _ _ _ h; exact h) (Or.inl ⟨by rfl, ?_⟩) (by assumption) ?_
  rotate_left
  · (intro w hSw; (try dsimp only at hSw); obtain ⟨hS0, hS1, hS2⟩ := hSw; go_simp <;> with_reducible rfl)
  try simp only [Act.put, List.setIfInBounds_toArray, List.set_cons_zero, List.set_cons_succ]
  refine wpAnyH_take (i := 7) (v := ?_) (by simp only [List.getElem?_toArray, List.getElem?_cons_succ, List.getElem?_cons_zero]; rfl) (by kernel_rfl) (by kernel_rfl) (by kernel_rfl) (by intro _ _ _ h; exact h) (Or.inl ⟨by rfl, ?_⟩) (by assumption) ?_
  rotate_left
  · (intro w hSw; (try dsimp only at hSw); obtain ⟨hS0, hS1, hS2⟩ := hSw; go_simp <;> with_reducible rfl)
  try simp only [Act.put, List.setIfInBounds_toArray, List.set_cons_zero, List.set_cons_succ]
  refine wpAnyH_take (i := 8) (v := ?_) (by simp only [List.getElem?_toArray, List.getElem?_cons_succ, List.getElem?_cons_zero]; rfl) (by kernel_rfl) (by kernel_rfl) (by kernel_rfl) (by intro _ _ _ h; exact h) (Or.inl ⟨by rfl, ?_⟩) (by assumption) ?_
  rotate_left
  · (intro w hSw; (try dsimp only at hSw); obtain ⟨hS0, hS1, hS2⟩ := hSw; go_simp <;> with_reducible rfl)
  try simp only [Act.put, List.setIfInBounds_toArray, List.set_cons_zero, List.set_cons_succ]
  refine wpAnyH_ready (rs := [9]) (by kernel_rfl) (by simp) ?_
  refine AllReadyH.cons (by simp only [List.getElem?_toArray, List.getElem?_cons_succ, List.getElem?_cons_zero]; rfl) (fun KK hK => ?_) AllReadyH.nil
  go_simp
  refine Calls.mono (by have q := writeR_any (a := a) HPd.out.p.y hX2; rw [← hX] at q; exact q) ?_
  rintro e w2 ⟨rfl, z1, f1⟩
  have HP2 : Hid _ := HPd.out.chY z1 f1
  clear z1 f1
  refine hK.out _ _ ⟨HP2.out.p.c1, HP2.out.o.fa, HP2.out.o.fb⟩ (fun hHeld => ?_)
  clear hK KK HPd
  try simp only [Act.put, List.setIfInBounds_toArray, List.set_cons_zero, List.set_cons_succ]
  refine wpAnyH_done (by kernel_rfl) ?_ _
  clear hHeld
  go_wp2_with fail
  go_ret
  exact ⟨by first | rfl | (simp; done), _, _, _, _, _, HP2.out.p, by omega⟩
set_option maxRecDepth 100000 in
set_option maxHeartbeats 2000000 in
theorem stepHead (h : Pw W Q pb lo hi A Y C C S L H hf w) (hN : L.es.length ≤ 10000000) : Calls Tryd.prog 26 #[.pointer (some ⟨pb, 0, none⟩), .agg #[.int .i64 6, .int .i64 a, .int .i64 b, .int .i64 c]] w (StepAns W Q pb lo hi A Y (L.es.length + 12)) := by
  have k0 := (h.start 6 a b c).p.c0
  have HP0 : Hid _ := h.start (6) a b c
  clear h
  go_enter Tryd.func26, Tryd.ntmps26
  go_wp2_with fail
  generalize World.alloc w _ = w0 at HP0 k0 ⊢
  generalize w.heap.size = ob at HP0 ⊢
  refine Calls.mono (HP0.out.p.x.ct.header) ?_
  rintro e w1 ⟨rfl, u1⟩
  have HP1 : Hid _ := HP0.out.up u1
  have k1 := HP1.out.p.c1
  clear HP0 k0 u1
  go_wp2_with fail
  have HH : Hid ((w1.alloc (.cells #[.string C.hd, .int .i64 (C.ty : Int), .int .i64 (C.mpr : Int), .int .i64 (C.bk : Int), .int .i64 (C.rm : Int), .bool C.bat] 30)).heap[w1.heap.size]? = some (.cells #[.string C.hd, .int .i64 (C.ty : Int), .int .i64 (C.mpr : Int), .int .i64 (C.bk : Int), .int .i64 (C.rm : Int), .bool C.bat] 30 (0, 0))) := heap_alloc_new w1 _
  have HP2 : Hid _ := HP1.out.up ((Up.refl w1).alloc (.cells #[.string C.hd, .int .i64 (C.ty : Int), .int .i64 (C.mpr : Int), .int .i64 (C.bk : Int), .int .i64 (C.rm : Int), .bool C.bat] 30))
  clear HP1 k1
  generalize World.alloc w1 _ = w2 at HH HP2 ⊢
  generalize w1.heap.size = hb at HH ⊢
  have HYr : Hid (∀ w, Up w2 w → w.rangeAt Y.yb 0 [.string C.hd, .int .i64 (C.ty : Int), .int .i64 (C.mpr : Int), .int .i64 (C.bk : Int), .int .i64 (C.rm : Int), .bool C.bat]) := fun w u k v hk => by
    have q := (HP2.out.up u).p.y.blk
    rw [Nat.zero_add]
    match k, hk with
    | 0, hk => simp at hk; subst hk; exact heap_cell q rfl
    | 1, hk => simp at hk; subst hk; exact heap_cell q rfl
    | 2, hk => simp at hk; subst hk; exact heap_cell q rfl
    | 3, hk => simp at hk; subst hk; exact heap_cell q rfl
    | 4, hk => simp at hk; subst hk; exact heap_cell q rfl
    | 5, hk => simp at hk; subst hk; exact heap_cell q rfl
  have HSw : Hid (∀ w, Up w2 w → w.rangeAt hb 0 [.string C.hd, .int .i64 (C.ty : Int), .int .i64 (C.mpr : Int), .int .i64 (C.bk : Int), .int .i64 (C.rm : Int), .bool C.bat] ∧ w.rangeAt Y.yb 0 [.string C.hd, .int .i64 (C.ty : Int), .int .i64 (C.mpr : Int), .int .i64 (C.bk : Int), .int .i64 (C.rm : Int), .bool C.bat] ∧ w.cell? ⟨pb, 1, none⟩ = some (.pointer (some ⟨Y.yb, 0, none⟩))) := fun w u => ⟨range_up u (range_heap HH.out), HYr.out w u, (HP2.out.up u).p.c1⟩
  clear HH HYr
  refine wp_region_held_drew (S := fun w => w.rangeAt hb 0 [.string C.hd, .int .i64 (C.ty : Int), .int .i64 (C.mpr : Int), .int .i64 (C.bk : Int), .int .i64 (C.rm : Int), .bool C.bat] ∧ w.rangeAt Y.yb 0 [.string C.hd, .int .i64 (C.ty : Int), .int .i64 (C.mpr : Int), .int .i64 (C.bk : Int), .int .i64 (C.rm : Int), .bool C.bat] ∧ w.cell? ⟨pb, 1, none⟩ = some (.pointer (some ⟨Y.yb, 0, none⟩))) (by kernel_rfl) (HSw.out w2 (Up.refl w2)) (fun hHeld => ?_)
  have HUd : Hid (Up w2 w2.drew) := (Up.refl w2).drew
  generalize World.drew w2 = wd at HUd hHeld ⊢
  refine wpAnyH_take (i := 0) (v := .agg [.string C.hd, .int .i64 (C.ty : Int), .int .i64 (C.mpr : Int), .int .i64 (C.bk : Int), .int .i64 (C.rm : Int), .bool C.bat].toArray) (by simp only [List.getElem?_toArray, List.getElem?_cons_zero]; rfl) (by kernel_rfl) (by kernel_rfl) (by kernel_rfl) (by intro _ _ _ h; exact h) (yieldsIf_load_mid (by rfl) 30 _ rfl hb 0 rfl [.string C.hd, .int .i64 (C.ty : Int), .int .i64 (C.mpr : Int), .int .i64 (C.bk : Int), .int .i64 (C.rm : Int), .bool C.bat] _ (fun w hw => hw.1) Tryd.underlying30 rfl (by kernel_rfl)) (by assumption) ?_
  simp only [Act.put, List.setIfInBounds_toArray, List.set_cons_zero, List.set_cons_succ]
  refine wpAnyH_take (i := 1) (v := ?_) (by simp only [List.getElem?_toArray, List.getElem?_cons_succ, List.getElem?_cons_zero]; rfl) (by kernel_rfl) (by kernel_rfl) (by kernel_rfl) (by intro _ _ _ h; exact h) (Or.inl ⟨by rfl, ?_⟩) (by assumption) ?_
  rotate_left
  · (intro w hSw; (try dsimp only at hSw); obtain ⟨hS0, hS1, hS2⟩ := hSw; go_simp <;> with_reducible rfl)
  try simp only [Act.put, List.setIfInBounds_toArray, List.set_cons_zero, List.set_cons_succ]
  refine wpAnyH_take (i := 2) (v := ?_) (by simp only [List.getElem?_toArray, List.getElem?_cons_succ, List.getElem?_cons_zero]; rfl) (by kernel_rfl) (by kernel_rfl) (by kernel_rfl) (by intro _ _ _ h; exact h) (Or.inl ⟨by rfl, ?_⟩) (by assumption) ?_
  rotate_left
  · (intro w hSw; (try dsimp only at hSw); obtain ⟨hS0, hS1, hS2⟩ := hSw; go_simp <;> with_reducible rfl)
  try simp only [Act.put, List.setIfInBounds_toArray, List.set_cons_zero, List.set_cons_succ]
  refine wpAnyH_take (i := 3) (v := ?_) (by simp only [List.getElem?_toArray, List.getElem?_cons_succ, List.getElem?_cons_zero]; rfl) (by kernel_rfl) (by kernel_rfl) (by kernel_rfl) (by intro _ _ _ h; exact h) (Or.inl ⟨by rfl, ?_⟩) (by assumption) ?_
  rotate_left
  · (intro w hSw; (try dsimp only at hSw); obtain ⟨hS0, hS1, hS2⟩ := hSw; go_simp <;> with_reducible rfl)
  try simp only [Act.put, List.setIfInBounds_toArray, List.set_cons_zero, List.set_cons_succ]
  refine wpAnyH_take (i := 4) (v := ?_) (by simp only [List.getElem?_toArray, List.getElem?_cons_succ, List.getElem?_cons_zero]; rfl) (by kernel_rfl) (by kernel_rfl) (by kernel_rfl) (by intro _ _ _ h; exact h) (Or.inl ⟨by rfl, ?_⟩) (by assumption) ?_
  rotate_left
  · (intro w hSw; (try dsimp only at hSw); obtain ⟨hS0, hS1, hS2⟩ := hSw; go_simp <;> with_reducible rfl)
  try simp only [Act.put, List.setIfInBounds_toArray, List.set_cons_zero, List.set_cons_succ]
  refine wpAnyH_take (i := 5) (v := ?_) (by simp only [List.getElem?_toArray, List.getElem?_cons_succ, List.getElem?_cons_zero]; rfl) (by kernel_rfl) (by kernel_rfl) (by kernel_rfl) (by intro _ _ _ h; exact h) (Or.inl ⟨by rfl, ?_⟩) (by assumption) ?_
  rotate_left
  · (intro w hSw; (try dsimp only at hSw); obtain ⟨hS0, hS1, hS2⟩ := hSw; go_simp <;> with_reducible rfl)
  try simp only [Act.put, List.setIfInBounds_toArray, List.set_cons_zero, List.set_cons_succ]
  refine wpAnyH_take (i := 6) (v := ?_) (by simp only [List.getElem?_toArray, List.getElem?_cons_succ, List.getElem?_cons_zero]; rfl) (by kernel_rfl) (by kernel_rfl) (by kernel_rfl) (by intro _ _ _ h; exact h) (Or.inl ⟨by rfl, ?_⟩) (by assumption) ?_
  rotate_left
  · (intro w hSw; (try dsimp only at hSw); obtain ⟨hS0, hS1, hS2⟩ := hSw; go_simp <;> with_reducible rfl)
  try simp only [Act.put, List.setIfInBounds_toArray, List.set_cons_zero, List.set_cons_succ]
  refine wpAnyH_take (i := 7) (v := .agg [.string C.hd, .int .i64 (C.ty : Int), .int .i64 (C.mpr : Int), .int .i64 (C.bk : Int), .int .i64 (C.rm : Int), .bool C.bat].toArray) (by simp only [List.getElem?_toArray, List.getElem?_cons_succ, List.getElem?_cons_zero]; rfl) (by kernel_rfl) (by kernel_rfl) (by kernel_rfl) (by intro _ _ _ h; exact h) (yieldsIf_load_mid (by rfl) 30 _ rfl Y.yb 0 rfl [.string C.hd, .int .i64 (C.ty : Int), .int .i64 (C.mpr : Int), .int .i64 (C.bk : Int), .int .i64 (C.rm : Int), .bool C.bat] _ (fun w hw => hw.2.1) Tryd.underlying30 rfl (by kernel_rfl)) (by assumption) ?_
  simp only [Act.put, List.setIfInBounds_toArray, List.set_cons_zero, List.set_cons_succ]
  refine wpAnyH_ready (rs := [8]) (by kernel_rfl) (by simp) ?_
  refine AllReadyH.cons (by simp only [List.getElem?_toArray, List.getElem?_cons_succ, List.getElem?_cons_zero]; rfl) (fun KK hK => ?_) AllReadyH.nil
  go_simp
  refine Calls.mono (sameHead_yes wd) ?_
  rintro e w3 ⟨rfl, u3⟩
  refine hK.out _ _ (HSw.out w3 (HUd.out.trans u3)) (fun hHeld => ?_)
  have HP3 : Hid _ := HP2.out.up (HUd.out.trans u3)
  clear hK KK u3 HUd HSw
  try simp only [Act.put, List.setIfInBounds_toArray, List.set_cons_zero, List.set_cons_succ]
  refine wpAnyH_take (i := 9) (v := ?_) (by simp only [List.getElem?_toArray, List.getElem?_cons_succ, List.getElem?_cons_zero]; rfl) (by kernel_rfl) (by kernel_rfl) (by kernel_rfl) (by intro _ _ _ h; exact h) (Or.inl ⟨by rfl, ?_⟩) (by assumption) ?_
  rotate_left
  · (intro w hSw; (try dsimp only at hSw); obtain ⟨hS0, hS1, hS2⟩ := hSw; go_simp <;> with_reducible rfl)
  try simp only [Act.put, List.setIfInBounds_toArray, List.set_cons_zero, List.set_cons_succ]
  refine wpAnyH_done (by kernel_rfl) ?_ _
  clear hHeld
  go_wp2_with fail
  go_ret
  exact ⟨by first | rfl | (simp; done), _, _, _, _, _, HP3.out.p, by omega⟩
set_option maxRecDepth 100000 in
set_option maxHeartbeats 2000000 in
theorem stepElse (h : Pw W Q pb lo hi A Y C C S L H hf w) (hN : L.es.length ≤ 10000000) (k1 : kd ≠ 1) (k2 : kd ≠ 2) (k3 : kd ≠ 3) (k4 : kd ≠ 4) (k5 : kd ≠ 5) (k6 : kd ≠ 6) : Calls Tryd.prog 26 #[.pointer (some ⟨pb, 0, none⟩), .agg #[.int .i64 kd, .int .i64 a, .int .i64 b, .int .i64 c]] w (StepAns W Q pb lo hi A Y (L.es.length + 12)) := by
  have bk1 : (kd == 1) = false := beq_eq_false_iff_ne.2 k1
  have bk2 : (kd == 2) = false := beq_eq_false_iff_ne.2 k2
  have bk3 : (kd == 3) = false := beq_eq_false_iff_ne.2 k3
  have bk4 : (kd == 4) = false := beq_eq_false_iff_ne.2 k4
  have bk5 : (kd == 5) = false := beq_eq_false_iff_ne.2 k5
  have bk6 : (kd == 6) = false := beq_eq_false_iff_ne.2 k6
  have HP0 : Hid _ := h.start (kd) a b c
  clear h
  go_enter Tryd.func26, Tryd.ntmps26
  go_wp2_with fail
  generalize World.alloc w _ = w0 at HP0 ⊢
  generalize w.heap.size = ob at HP0 ⊢
  go_ret
  exact ⟨by first | rfl | (simp; done), _, _, _, _, _, HP0.out.p, by omega⟩
end Go.Proofs.YtojlappgmckokaaDoor
/- Cart: steps of a pair: Save. -/
namespace Go.Proofs.YtojlappgmckokaaDoor
open Go.Shelf Go.RowKit
set_option linter.unusedVariables false
set_option linter.unusedSimpArgs false
variable {w w' W : World} {pb lo hi n H ob : Nat} {Q : Qk} {A : Ad} {Y : Yd} {C D C' D' : Ct} {S : Nat → Prop} {L : Bd} {f hf : Nat → Int} {v u : Value} {a b c kd : Int}
theorem same_by {g1 g2 c1 c2 : Nat} (h1 : By w g1 n f) (h2 : By w g2 n f) (h8 : ∀ k, 0 ≤ f k ∧ f k ≤ 255) (q1 : n ≤ c1) (q2 : c1 ≤ maxLen) (q3 : n ≤ c2) (q4 : c2 ≤ maxLen) : Calls Tryd.prog 21 #[.slice (some ⟨g1, 0, none⟩) n c1, .slice (some ⟨g2, 0, none⟩) n c2] w fun e w' => e = .returned (.bool true) ∧ Up w w' :=
  same_yes (h1.byts q1 q2 h8) (h2.byts q3 q4 h8) (fun _ _ => rfl)
theorem own_by {g cap base : Nat} (h : w.ownsRow base 5 1 (.slice (some ⟨g, 0, none⟩) n cap) n (byL f n)) : By w g n f := by
  obtain ⟨cur, hg, hb, hc, hm, hs, ht⟩ := own_open h
  exact ⟨cur, _, hg, by omega, fun k hk => by rw [own_at ht.1 k (by omega)]; exact byL_at hk⟩
theorem st_u8 {C : Ct} (ho : C.Ok) (hs : C.m.Std) : ∀ k, 0 ≤ C.st k ∧ C.st k ≤ 255 := fun k => by
  unfold Ct.st catF
  split
  · exact rgF_5 hs (by assumption)
  · exact ho.u8 _
/-- a list that came out: nothing of the book -/
def Fz (Q : Qk) (pb : Nat) (S : Nat → Prop) (L : Bd) (g : Nat) (w : World) : Prop := g < w.heap.size ∧ pb < g ∧ ¬ Al S L g ∧ L.x2.ownBlock ≠ some g ∧ ¬ Q.K g
theorem Fz.up {g : Nat} (h : Fz Q pb S L g w) (u : Up w w') : Fz Q pb S L g w' := ⟨Nat.lt_of_lt_of_le h.1 u.size, h.2⟩
theorem Pw.fz {g : Nat} (h : Pw W Q pb lo hi A Y C D S L H hf w) (hg : w.heap.size ≤ g) (hl : g < w'.heap.size) : Fz Q pb S L g w' := ⟨hl, by have := h.lh; omega, h.new hg⟩
theorem own_re {g cap b1 b2 : Nat} (h : w.ownsRow b1 5 1 (.slice (some ⟨g, 0, none⟩) n cap) n (byL f n)) (hb : b2 ≤ g) : w.ownsRow b2 5 1 (.slice (some ⟨g, 0, none⟩) n cap) n (byL f n) := by
  obtain ⟨cur, hg, _, hc, hm, hs, ht⟩ := own_open h
  exact own_of hg hb hc hm hs h.1 (fun k hk => own_at ht.1 k hk)
def Keeps (Q : Qk) (pb : Nat) (S : Nat → Prop) (L : Bd) (S' : Nat → Prop) (L' : Bd) (w w' : World) (k : Nat) : Prop := Fz Q pb S' L' k w' ∧ w'.heap[k]? = w.heap[k]?
theorem Pw.putL {g cap b1 : Nat} (h : Pw W Q pb lo hi A Y C D S L H hf w) (o : w.ownsRow b1 5 1 (.slice (some ⟨g, 0, none⟩) n cap) n (byL f n)) (z : Fz Q pb S L g w) (h8 : ∀ k, 0 ≤ f k ∧ f k ≤ 255) (hn : n ≤ 4000000) (hN : L.es.length ≤ 20000000) :
    Calls Tryd.prog 51 #[.pointer (some ⟨pb, 3, none⟩), .slice (some ⟨g, 0, none⟩) n cap] w fun e w' => e = .returned (.bool true) ∧ ∃ S' L', Pw W Q pb lo hi A Y C D S' L' n f w' ∧ L'.es.length = L.es.length + 4 ∧ ∀ k, Fz Q pb S L k w → k ≠ g → Keeps Q pb S L S' L' w w' k := by
  refine (h.put (own_re o z.2.1) h8 hn (fun b hb => by injection hb with hb; subst hb; exact z.2.2) hN).mono ?_
  rintro e w' ⟨rfl, ch, S', L', hp, hl, hx, hal⟩
  refine ⟨rfl, S', L', hp, hl, fun k hk hne => ⟨⟨Nat.lt_of_lt_of_le hk.1 ch.size, hk.2.1, fun q => ?_, by rw [hx]; exact hk.2.2.2.1, hk.2.2.2.2⟩, ch.block k hk.1 ⟨hk.2.2.1, by have := hk.2.1; omega⟩⟩⟩
  rcases hal k q with q | q | q
  · exact hk.2.2.1 q
  · injection q with q; exact hne q.symm
  · have := hk.1; omega
theorem Pw.putN (h : Pw W Q pb lo hi A Y C D S L H hf w) (hN : L.es.length ≤ 20000000) :
    Calls Tryd.prog 51 #[.pointer (some ⟨pb, 3, none⟩), .slice none 0 0] w fun e w' => e = .returned (.bool true) ∧ ∃ S' L', Pw W Q pb lo hi A Y C D S' L' 0 (fun _ => 0) w' ∧ L'.es.length = L.es.length + 4 := by
  refine (h.put (f := fun _ => 0) (own_none w _ _) (fun _ => ⟨Int.le_refl _, by decide⟩) (by omega) (fun b hb => by cases hb) hN).mono ?_
  rintro e w' ⟨rfl, ch, S', L', hp, hl, hx, hal⟩
  exact ⟨rfl, S', L', hp, hl⟩
set_option maxRecDepth 100000 in
set_option maxHeartbeats 2000000 in
theorem stepSaveYes (h : Pw W Q pb lo hi A Y C C S L H hf w) (hN : L.es.length ≤ 10000000) (hbat : C.bat = true) : Calls Tryd.prog 26 #[.pointer (some ⟨pb, 0, none⟩), .agg #[.int .i64 3, .int .i64 a, .int .i64 b, .int .i64 c]] w (StepAns W Q pb lo hi A Y (L.es.length + 12)) := by
  have h8 := fun k => h.x.ok.u8 k
  have hrm : C.rm ≤ 131072 := h.y.rm.1
  have hr1 := h.hb hbat
  have k0 := (h.start 3 a b c).p.c0
  have HP0 : Hid _ := (h.start 3 a b c).p
  clear h
  go_enter Tryd.func26, Tryd.ntmps26
  go_wp2_with fail
  generalize World.alloc w _ = w0 at HP0 k0 ⊢
  generalize w.heap.size = ob at HP0 k0 ⊢
  refine Calls.mono (HP0.out.x.ct.saveO hbat) ?_
  rintro e w1 ⟨x, xc, rfl, xl, xo, x1, x2, u1⟩
  have HP1 : Hid _ := HP0.out.upW u1
  have k1 := HP1.out.c1
  clear k0
  go_wp2_with fail
  refine Calls.mono (saveR_yes HP1.out.y hbat hr1) ?_
  rintro e w2 ⟨y, yc, rfl, yl, yo, y1, y2, u2⟩
  have HP2 : Hid _ := HP1.out.upW u2
  have k0 := HP2.out.c0
  clear k1 HP1
  go_wp2_with fail
  refine Calls.mono (HP2.out.x.ct.saveO hbat) ?_
  rintro e w3 ⟨z, zc, rfl, zl, zo, z1, z2, u3⟩
  have HP3 : Hid _ := HP2.out.upW u3
  have HXo : Hid (w3.ownsRow w0.heap.size 5 1 (.slice (some ⟨x, 0, none⟩) C.rm xc) C.rm (byL C.rf C.rm)) := ownsRow_up (ownsRow_up xo u2) u3
  have HZo : Hid (w3.ownsRow w2.heap.size 5 1 (.slice (some ⟨z, 0, none⟩) C.rm zc) C.rm (byL C.rf C.rm)) := zo
  have HYo : Hid (By w3 y C.rm C.rf) := yo.up u3
  have HFr : Hid (Fz Q pb S L x w3 ∧ Fz Q pb S L z w3 ∧ z ≠ x) := ⟨HP0.out.fz xl (Nat.lt_of_lt_of_le (xo.lt x rfl).2 (Nat.le_trans u2.size u3.size)), HP0.out.fz (Nat.le_trans u1.size (Nat.le_trans u2.size zl)) (zo.lt z rfl).2, by have := (xo.lt x rfl).2; have := u2.size; omega⟩
  clear k0 HP2 xo zo yo u1 u2 u3 xl zl yl HP0
  go_wp2_with fail
  refine Calls.mono (same_by (own_by HXo.out) HYo.out h8 x1 x2 y1 y2) ?_
  rintro e w4 ⟨rfl, u4⟩
  have HU4 : Hid (Up w3 w4) := u4
  clear u4
  go_wp2_with fail
  refine Calls.mono (same_by ((own_by HZo.out).up HU4.out) (HYo.out.up HU4.out) h8 z1 z2 y1 y2) ?_
  rintro e w5 ⟨rfl, u5⟩
  have HU5 : Hid (Up w3 w5) := HU4.out.trans u5
  clear u5 HU4 HYo
  go_wp2_with fail
  refine Calls.mono ((HP3.out.upW HU5.out).putL (ownsRow_up HXo.out HU5.out) (HFr.out.1.up HU5.out) h8 (by omega) (by omega)) ?_
  rintro e w6 ⟨rfl, S6, L6, hp6, hl6, hk6⟩
  have HP6 : Hid _ := hp6
  have HZ6 : Hid (w6.ownsRow w2.heap.size 5 1 (.slice (some ⟨z, 0, none⟩) C.rm zc) C.rm (byL C.rf C.rm) ∧ Fz Q pb S6 L6 z w6) := by
    have q := hk6 z (HFr.out.2.1.up HU5.out) HFr.out.2.2
    exact ⟨own_keep (ownsRow_up HZo.out HU5.out) (fun g hg => by injection hg with hg; subst hg; exact q.2), q.1⟩
  clear hp6 hk6 HP3 HU5 HXo HZo HFr
  go_wp2_with fail
  refine Calls.mono (HP6.out.putL HZ6.out.1 HZ6.out.2 h8 (by omega) (by omega)) ?_
  rintro e w7 ⟨rfl, S7, L7, hp7, hl7, hk7⟩
  have HP7 : Hid _ := hp7
  clear hp7 hk7 HP6 HZ6
  go_wp2_with fail
  go_ret
  exact ⟨by first | rfl | (simp; done), _, _, _, _, _, HP7.out, by omega⟩
set_option maxRecDepth 100000 in
set_option maxHeartbeats 2000000 in
theorem stepSaveNo (h : Pw W Q pb lo hi A Y C C S L H hf w) (hN : L.es.length ≤ 10000000) (hbat : C.bat = false) : Calls Tryd.prog 26 #[.pointer (some ⟨pb, 0, none⟩), .agg #[.int .i64 3, .int .i64 a, .int .i64 b, .int .i64 c]] w (StepAns W Q pb lo hi A Y (L.es.length + 12)) := by
  have k0 := (h.start 3 a b c).p.c0
  have HP0 : Hid _ := (h.start 3 a b c).p
  clear h
  go_enter Tryd.func26, Tryd.ntmps26
  go_wp2_with fail
  generalize World.alloc w _ = w0 at HP0 k0 ⊢
  generalize w.heap.size = ob at HP0 k0 ⊢
  refine Calls.mono (HP0.out.x.ct.saveNone hbat) ?_
  rintro e w1 ⟨rfl, u1⟩
  have HP1 : Hid (Pw W Q pb lo hi A Y C C S L H hf w1) := by rw [u1]; exact HP0.out
  have k1 := HP1.out.c1
  clear k0 HP0 u1
  go_wp2_with fail
  refine Calls.mono (saveR_no HP1.out.y hbat) ?_
  rintro e w2 ⟨rfl, u2⟩
  have HP2 : Hid (Pw W Q pb lo hi A Y C C S L H hf w2) := by rw [u2]; exact HP1.out
  have k0 := HP2.out.c0
  clear k1 HP1 u2
  go_wp2_with fail
  refine Calls.mono (HP2.out.x.ct.saveNone hbat) ?_
  rintro e w3 ⟨rfl, u3⟩
  have HP3 : Hid (Pw W Q pb lo hi A Y C C S L H hf w3) := by rw [u3]; exact HP2.out
  have HS : Hid (∀ w, Calls Tryd.prog 21 #[.slice none 0 0, .slice none 0 0] w fun e w' => e = .returned (.bool true) ∧ Up w w') := fun w => same_own (f := fun _ => 0) (own_none w 0 _) (own_none w 0 _) (fun _ => ⟨Int.le_refl _, by decide⟩)
  clear k0 HP2 u3
  go_wp2_with fail
  refine Calls.mono (HS.out w3) ?_
  rintro e w4 ⟨rfl, u4⟩
  have HP4 : Hid _ := HP3.out.upW u4
  clear HP3 u4
  go_wp2_with fail
  refine Calls.mono (HS.out w4) ?_
  rintro e w5 ⟨rfl, u5⟩
  have HP5 : Hid _ := HP4.out.upW u5
  clear HP4 u5 HS
  go_wp2_with fail
  refine Calls.mono (HP5.out.putN (by omega)) ?_
  rintro e w6 ⟨rfl, S6, L6, hp6, hl6⟩
  have HP6 : Hid _ := hp6
  clear hp6 HP5
  go_wp2_with fail
  refine Calls.mono (HP6.out.putN (by omega)) ?_
  rintro e w7 ⟨rfl, S7, L7, hp7, hl7⟩
  have HP7 : Hid _ := hp7
  clear hp7 HP6
  go_wp2_with fail
  go_ret
  exact ⟨by first | rfl | (simp; done), _, _, _, _, _, HP7.out, by omega⟩
end Go.Proofs.YtojlappgmckokaaDoor
/- Cart: steps of a pair: State. -/
namespace Go.Proofs.YtojlappgmckokaaDoor
open Go.Shelf Go.RowKit
set_option linter.unusedVariables false
set_option linter.unusedSimpArgs false
variable {w w' W : World} {pb lo hi n H ob : Nat} {Q : Qk} {A : Ad} {Y : Yd} {C D C' D' : Ct} {S : Nat → Prop} {L : Bd} {f hf : Nat → Int} {v u : Value} {a b c kd : Int}
theorem save_up (h : Cz lo hi A C w) : Calls Tryd.prog 24 #[.pointer (some ⟨A.cb, 0, none⟩)] w fun e w' => (∃ a n c, e = .returned (.slice a n c)) ∧ Up w w' := by
  rcases hb : C.bat with _ | _
  · exact (h.ct.saveNone hb).mono fun e w' ⟨h1, h2⟩ => ⟨⟨_, _, _, h1⟩, by rw [h2]; exact Up.refl w⟩
  · exact (h.ct.saveO hb).mono fun e w' ⟨g, cap, h1, _, _, _, _, h2⟩ => ⟨⟨_, _, _, h1⟩, h2⟩
set_option maxRecDepth 100000 in
set_option maxHeartbeats 2000000 in
theorem stepState (h : Pw W Q pb lo hi A Y C C S L H hf w) (hN : L.es.length ≤ 10000000) : Calls Tryd.prog 26 #[.pointer (some ⟨pb, 0, none⟩), .agg #[.int .i64 4, .int .i64 a, .int .i64 b, .int .i64 c]] w (StepAns W Q pb lo hi A Y (L.es.length + 12)) := by
  have h8 := st_u8 h.x.ok h.x.std
  have hrm : C.rm ≤ 131072 := h.y.rm.1
  have k0 := (h.start 4 a b c).p.c0
  have HP0 : Hid _ := (h.start 4 a b c).p
  clear h
  go_enter Tryd.func26, Tryd.ntmps26
  go_wp2_with fail
  generalize World.alloc w _ = w0 at HP0 k0 ⊢
  generalize w.heap.size = ob at HP0 k0 ⊢
  refine Calls.mono (HP0.out.x.ct.stateO HP0.out.x.std) ?_
  rintro e w1 ⟨x, xc, rfl, xl, xo, x1, x2, u1⟩
  have HP1 : Hid _ := HP0.out.upW u1
  have k1 := HP1.out.c1
  clear k0
  go_wp2_with fail
  refine Calls.mono (stateR_any HP1.out.y) ?_
  rintro e w2 ⟨y, yc, rfl, yl, yo, y1, y2, u2⟩
  have HP2 : Hid _ := HP1.out.upW u2
  have k0 := HP2.out.c0
  clear k1 HP1
  go_wp2_with fail
  refine Calls.mono (HP2.out.x.ct.stateO HP2.out.x.std) ?_
  rintro e w3 ⟨z, zc, rfl, zl, zo, z1, z2, u3⟩
  have HP3 : Hid _ := HP2.out.upW u3
  have k3 := HP3.out.c0
  clear k0 HP2
  go_wp2_with fail
  refine Calls.mono (save_up HP3.out.x) ?_
  rintro e w4 ⟨⟨sa, sn, sc, rfl⟩, u4⟩
  have HP4 : Hid _ := HP3.out.upW u4
  have k0 := HP4.out.c0
  clear k3 HP3
  go_wp2_with fail
  refine Calls.mono (HP4.out.x.ct.stateO HP4.out.x.std) ?_
  rintro e w5 ⟨v, vc, rfl, vl, vo, v1, v2, u5⟩
  have HP5 : Hid _ := HP4.out.upW u5
  generalize hN5 : 5 + C.rm = N at *
  have nN : N ≤ 131077 := by omega
  have HXo : Hid (w5.ownsRow w0.heap.size 5 1 (.slice (some ⟨x, 0, none⟩) N xc) N (byL C.st N)) := ownsRow_up xo (u2.trans (u3.trans (u4.trans u5)))
  have HZo : Hid (w5.ownsRow w2.heap.size 5 1 (.slice (some ⟨z, 0, none⟩) N zc) N (byL C.st N)) := ownsRow_up zo (u4.trans u5)
  have HVo : Hid (w5.ownsRow w4.heap.size 5 1 (.slice (some ⟨v, 0, none⟩) N vc) N (byL C.st N)) := vo
  have HYo : Hid (By w5 y N C.st) := yo.up (u3.trans (u4.trans u5))
  have HFr : Hid (Fz Q pb S L x w5 ∧ Fz Q pb S L y w5 ∧ Fz Q pb S L z w5 ∧ Fz Q pb S L v w5 ∧ y ≠ x ∧ z ≠ x ∧ v ≠ x ∧ y ≠ z ∧ v ≠ z ∧ y ≠ v) := by
    have s1 := u1.size; have s2 := u2.size; have s3 := u3.size; have s4 := u4.size; have s5 := u5.size
    have lx := (xo.lt x rfl).2; have ly := yo.lt; have lz := (zo.lt z rfl).2; have lv := (vo.lt v rfl).2
    exact ⟨HP0.out.fz (by omega) (by omega), HP0.out.fz (by omega) (by omega), HP0.out.fz (by omega) (by omega), HP0.out.fz (by omega) (by omega), by omega, by omega, by omega, by omega, by omega, by omega⟩
  clear k0 HP4 xo zo yo vo u1 u2 u3 u4 u5 xl zl yl vl HP0
  go_wp2_with fail
  refine Calls.mono (same_by (own_by HXo.out) HYo.out h8 x1 x2 y1 y2) ?_
  rintro e w6 ⟨rfl, u6⟩
  have HU6 : Hid (Up w5 w6) := u6
  clear u6
  go_wp2_with fail
  refine Calls.mono (same_by ((own_by HZo.out).up HU6.out) (HYo.out.up HU6.out) h8 z1 z2 y1 y2) ?_
  rintro e w7 ⟨rfl, u7⟩
  have HU7 : Hid (Up w5 w7) := HU6.out.trans u7
  clear u7 HU6
  go_wp2_with fail
  refine Calls.mono (same_by ((own_by HVo.out).up HU7.out) (HYo.out.up HU7.out) h8 v1 v2 y1 y2) ?_
  rintro e w8 ⟨rfl, u8⟩
  have HU8 : Hid (Up w5 w8) := HU7.out.trans u8
  clear u8 HU7
  go_wp2_with fail
  refine Calls.mono ((HP5.out.upW HU8.out).putL (ownsRow_up HXo.out HU8.out) (HFr.out.1.up HU8.out) h8 (by omega) (by omega)) ?_
  rintro e w9 ⟨rfl, S9, L9, hp9, hl9, hk9⟩
  have HP9 : Hid _ := hp9
  have HK9 : Hid (Fz Q pb S9 L9 y w9 ∧ By w9 y N C.st ∧ Fz Q pb S9 L9 z w9 ∧ w9.ownsRow w2.heap.size 5 1 (.slice (some ⟨z, 0, none⟩) N zc) N (byL C.st N) ∧ Fz Q pb S9 L9 v w9 ∧ w9.ownsRow w4.heap.size 5 1 (.slice (some ⟨v, 0, none⟩) N vc) N (byL C.st N)) := by
    obtain ⟨_, fy, fz, fv, n1, n2, n3, n4, n5, n6⟩ := HFr.out
    have qy := hk9 y (fy.up HU8.out) n1
    have qz := hk9 z (fz.up HU8.out) n2
    have qv := hk9 v (fv.up HU8.out) n3
    exact ⟨qy.1, (HYo.out.up HU8.out).of_block qy.2, qz.1, own_keep (ownsRow_up HZo.out HU8.out) (fun g hg => by injection hg with hg; subst hg; exact qz.2), qv.1, own_keep (ownsRow_up HVo.out HU8.out) (fun g hg => by injection hg with hg; subst hg; exact qv.2)⟩
  clear hp9 hk9 HP5 HU8 HXo HZo HVo HYo
  go_wp2_with fail
  refine Calls.mono (HP9.out.putL HK9.out.2.2.2.1 HK9.out.2.2.1 h8 (by omega) (by omega)) ?_
  rintro e w10 ⟨rfl, S10, L10, hp10, hl10, hk10⟩
  have HP10 : Hid _ := hp10
  have HK10 : Hid (Fz Q pb S10 L10 y w10 ∧ By w10 y N C.st ∧ Fz Q pb S10 L10 v w10 ∧ w10.ownsRow w4.heap.size 5 1 (.slice (some ⟨v, 0, none⟩) N vc) N (byL C.st N)) := by
    obtain ⟨_, _, _, _, n1, n2, n3, n4, n5, n6⟩ := HFr.out
    obtain ⟨k1, k2, k3, k4, k5, k6⟩ := HK9.out
    have qy := hk10 y k1 n4
    have qv := hk10 v k5 n5
    exact ⟨qy.1, k2.of_block qy.2, qv.1, own_keep k6 (fun g hg => by injection hg with hg; subst hg; exact qv.2)⟩
  clear hp10 hk10 HP9 HK9
  go_wp2_with fail
  refine Calls.mono (HP10.out.putL HK10.out.2.2.2 HK10.out.2.2.1 h8 (by omega) (by omega)) ?_
  rintro e w11 ⟨rfl, S11, L11, hp11, hl11, hk11⟩
  have HK11 : Hid (Fz Q pb S11 L11 y w11 ∧ By w11 y N C.st) := by
    have qy := hk11 y HK10.out.1 HFr.out.2.2.2.2.2.2.2.2.2
    exact ⟨qy.1, HK10.out.2.1.of_block qy.2⟩
  obtain ⟨hl, kc, kf⟩ := hp11.last HK11.out.2 h8 y1 y2 (by omega) HK11.out.1.2.1 HK11.out.1.2.2.1 HK11.out.1.2.2.2.2
  have HL : Hid _ := hl
  clear hp11 hk11 HP10 HK10 hl HK11 HFr
  go_wp2_with fail
  go_ret
  exact ⟨by first | rfl | (simp; done), _, _, _, _, _, HL.out, by simp only; omega⟩
end Go.Proofs.YtojlappgmckokaaDoor
