import Derived.Test.YtojlappgmckokaaDoorXmP
import Derived.Test.YtojlappgmckokaaDoorCaS
import Derived.Test.YtojlappgmckokaaDoorXmO
/- Cart: any step of a pair; the first pair. -/
namespace Go.Proofs.YtojlappgmckokaaDoor
open Go.Shelf Go.RowKit
set_option linter.unusedVariables false
set_option linter.unusedSimpArgs false
variable {w w' W : World} {pb lo hi n H ob : Nat} {Q : Qk} {A : Ad} {Y : Yd} {C D C' D' : Ct} {S : Nat → Prop} {L : Bd} {f hf : Nat → Int} {v u : Value} {a b c kd : Int}
theorem step_any {N : Nat} (h : Sp W Q pb lo hi A Y N w) (hN : N ≤ 10000000) (ha : I64 a) (hc : I64 c) : Calls Tryd.prog 26 #[.pointer (some ⟨pb, 0, none⟩), .agg #[.int .i64 kd, .int .i64 a, .int .i64 b, .int .i64 c]] w (StepAns W Q pb lo hi A Y (N + 12)) := by
  obtain ⟨C, S, L, H, hf, h, hl⟩ := h
  have fin : ∀ {e : Ending} {w' : World}, StepAns W Q pb lo hi A Y (L.es.length + 12) e w' → StepAns W Q pb lo hi A Y (N + 12) e w' := fun ⟨h1, C, S, L', H, hf, h2, h3⟩ => ⟨h1, C, S, L', H, hf, h2, by omega⟩
  have hN2 : L.es.length ≤ 10000000 := by omega
  by_cases k1 : kd = 1
  · subst k1; exact (stepRead h hN2).mono fun _ _ => fin
  by_cases k2 : kd = 2
  · subst k2; exact (stepWrite h hN2).mono fun _ _ => fin
  by_cases k3 : kd = 3
  · subst k3
    rcases hb : C.bat with _ | _
    · exact (stepSaveNo h hN2 hb).mono fun _ _ => fin
    · exact (stepSaveYes h hN2 hb).mono fun _ _ => fin
  by_cases k4 : kd = 4
  · subst k4; exact (stepState h hN2).mono fun _ _ => fin
  by_cases k5 : kd = 5
  · subst k5; exact (stepLoad h hN2 ha hc).mono fun _ _ => fin
  by_cases k6 : kd = 6
  · subst k6; exact (stepHead h hN2).mono fun _ _ => fin
  exact (stepElse h hN2 k1 k2 k3 k4 k5 k6).mono fun _ _ => fin
theorem looks_any {N : Nat} (h : Sp W Q pb lo hi A Y N w) : Calls Tryd.prog 27 #[.pointer (some ⟨pb, 3, none⟩)] w fun e w' => e = .returned (.bool true) ∧ Sp W Q pb lo hi A Y N w' := by
  obtain ⟨C, S, L, H, hf, h, hl⟩ := h
  exact h.looks.mono fun e w' ⟨h1, u⟩ => ⟨h1, C, S, L, H, hf, h.upW u, hl⟩
theorem Sp.upW {N : Nat} (h : Sp W Q pb lo hi A Y N w) (u : Up w w') : Sp W Q pb lo hi A Y N w' := by
  obtain ⟨C, S, L, H, hf, h, hl⟩ := h
  exact ⟨C, S, L, H, hf, h.upW u, hl⟩
theorem Sp.up {N : Nat} (h : Sp W Q pb lo hi A Y N w) : Up W w := by
  obtain ⟨C, S, L, H, hf, h, hl⟩ := h
  exact h.up
theorem Sp.wide {N M : Nat} (h : Sp W Q pb lo hi A Y N w) (hM : N ≤ M) : Sp W Q pb lo hi A Y M w := by
  obtain ⟨C, S, L, H, hf, h, hl⟩ := h
  exact ⟨C, S, L, H, hf, h, by omega⟩
/-- a pair that was made has an empty book -/
theorem Prd.pw (h : Prd W pb lo hi A Y C w) (u : Up W w) (hb : C.bat = true → 1 ≤ C.rm) : Pw W ⟨fun _ => False, w⟩ pb lo hi A Y C C (fun _ => False) ⟨.pointer (some ⟨A.cb, 0, none⟩), .pointer (some ⟨Y.yb, 0, none⟩), .slice none 0 0, .slice none 0 0, .slice none 0 0, .slice none 0 0, .slice none 0 0, [], []⟩ 0 (fun _ => 0) w := by
  have hp := heap_at h.blk
  have z8 : ∀ k : Nat, (0 : Int) ≤ 0 ∧ (0 : Int) ≤ 255 := fun _ => ⟨Int.le_refl _, by decide⟩
  refine ⟨u, h.l, h.x, h.y, h.y1, h.y2, h.y3, ⟨⟨h.blk, Nat.lt_succ_self _, hp, fun b q => q.elim, rfl, own_none w _ _, own_none w _ _, fun b q => (by cases q), fun b q => (by cases q), fun i e m he => (by simp at he)⟩, own_none w _ _, own_none w _ _, Nat.zero_le _, z8, fun b q => (by cases q), fun b q => (by cases q)⟩, rfl, rfl, ⟨none, 0, 0, 0, 0, fun _ => 0, rfl, ⟨Nat.le_refl _, Nat.zero_le _, fun q => absurd q (Nat.lt_irrefl _), z8, fun k q => absurd q (Nat.not_lt_zero _)⟩, ⟨Nat.zero_le _, fun _ => rfl⟩, fun g q => (by cases q)⟩, hb, fun b q => q.elim⟩
theorem Sp.setQ {N : Nat} (h : Sp W Q pb lo hi A Y N w) (x : Obj) : Sp W ⟨fun b => b = w.heap.size, w.alloc x⟩ pb lo hi A Y N (w.alloc x) := by
  obtain ⟨C, S, L, H, hf, h, hl⟩ := h
  exact ⟨C, S, L, H, hf, h.setQ x, hl⟩
theorem Sp.kept {N b : Nat} (h : Sp W Q pb lo hi A Y N w) (hb : Q.K b) : w.heap[b]? = Q.W.heap[b]? := by
  obtain ⟨C, S, L, H, hf, h, hl⟩ := h
  exact (h.kp b hb).2.2.2.2
/-- what New wants has RAM where it has a battery -/
theorem rows_bat : ∀ r ∈ rowsT, r.bat = true → r.mapper = 2 ∨ (2 ≤ r.lo ∧ r.hi ≤ 5) := by decide
theorem Wants.bat {sn : Nat} {sf : Nat → Int} {x : Int} (h : Wants f n sn sf x (some C)) : C.bat = true → 1 ≤ C.rm := by
  intro hb
  rcases h with ⟨_, _, q⟩ | ⟨_, R, b, mk, r1, m1, ⟨_, _, q⟩ | ⟨_, _, _, _, q⟩ | ⟨h0, _, _, m, _, q⟩⟩
  · cases q
  · cases q
  · cases q
  injection q with q
  subst q
  obtain ⟨_, _, hbt, hl1, hl2⟩ := fault_zero h0
  have hb : R.bat = true := hb
  show 1 ≤ ramN R (f 329).toNat
  rcases r1 with ⟨_, hm, _⟩ | ⟨hbf, _, _⟩
  · have := rows_bat R hm hb
    unfold ramN
    by_cases h2 : R.mapper = 2
    · rw [if_pos h2]; decide
    · rw [if_neg h2]
      obtain ⟨q1, q2⟩ : 2 ≤ (f 329).toNat ∧ (f 329).toNat ≤ 5 := by omega
      generalize (f 329).toNat = t at q1 q2
      have : t = 2 ∨ t = 3 ∨ t = 4 ∨ t = 5 := by omega
      rcases this with rfl | rfl | rfl | rfl <;> decide
  · rw [hbf] at hbt; cases hbt
end Go.Proofs.YtojlappgmckokaaDoor
/- Cart: Read and Write of a pair whose cartridge is known. -/
namespace Go.Proofs.YtojlappgmckokaaDoor
open Go.Shelf Go.RowKit
set_option linter.unusedVariables false
set_option linter.unusedSimpArgs false
variable {w w' W : World} {pb lo hi n H ob : Nat} {Q : Qk} {A : Ad} {Y : Yd} {C D C' D' : Ct} {S : Nat → Prop} {L : Bd} {f hf : Nat → Int} {v u : Value} {a b c kd : Int}
def SpC (W : World) (Q : Qk) (pb lo hi : Nat) (A : Ad) (Y : Yd) (C : Ct) (N : Nat) (w : World) : Prop := ∃ S L H hf, Pw W Q pb lo hi A Y C C S L H hf w ∧ L.es.length ≤ N
set_option maxRecDepth 100000 in
set_option maxHeartbeats 2000000 in
theorem stepReadC {N : Nat} (h : SpC W Q pb lo hi A Y C N w) : Calls Tryd.prog 26 #[.pointer (some ⟨pb, 0, none⟩), .agg #[.int .i64 1, .int .i64 a, .int .i64 b, .int .i64 c]] w fun e w' => e = .returned (.bool true) ∧ SpC W Q pb lo hi A Y C N w' := by
  obtain ⟨S, L, H, hf, h, hN⟩ := h
  have HP0 : Hid _ := h.start (1) a b c
  clear h
  go_enter Tryd.func26, Tryd.ntmps26
  go_wp2_with fail
  generalize World.alloc w _ = w0 at HP0 ⊢
  generalize w.heap.size = ob at HP0 ⊢
  refine wp_region_held_drew (S := fun w => (w.cell? ⟨pb, 0, none⟩ = some (.pointer (some ⟨A.cb, 0, none⟩))) ∧ (w.cell? ⟨ob, 1, none⟩ = some (.int .i64 a))) (by kernel_rfl) ⟨HP0.out.p.c0, HP0.out.o.fa⟩ (fun hHeld => ?_)
  have HPd : Hid _ := HP0.out.up ((Up.refl w0).drew)
  clear HP0
  generalize World.drew w0 = wd at HPd hHeld ⊢
  refine wpAnyH_take (i := 0) (v := ?_) (by simp only [List.getElem?_toArray, List.getElem?_cons_zero]; rfl) (by kernel_rfl) (by kernel_rfl) (by kernel_rfl) (by intro _ _ _ h; exact h) (Or.inl ⟨by rfl, ?_⟩) (by assumption) ?_
  rotate_left
  · (intro w hSw; (try dsimp only at hSw); obtain ⟨hS0, hS1⟩ := hSw; go_simp <;> with_reducible rfl)
  try simp only [Act.put, List.setIfInBounds_toArray, List.set_cons_zero, List.set_cons_succ]
  refine wpAnyH_take (i := 1) (v := ?_) (by simp only [List.getElem?_toArray, List.getElem?_cons_succ, List.getElem?_cons_zero]; rfl) (by kernel_rfl) (by kernel_rfl) (by kernel_rfl) (by intro _ _ _ h; exact h) (Or.inl ⟨by rfl, ?_⟩) (by assumption) ?_
  rotate_left
  · (intro w hSw; (try dsimp only at hSw); obtain ⟨hS0, hS1⟩ := hSw; go_simp <;> with_reducible rfl)
  try simp only [Act.put, List.setIfInBounds_toArray, List.set_cons_zero, List.set_cons_succ]
  refine wpAnyH_take (i := 2) (v := ?_) (by simp only [List.getElem?_toArray, List.getElem?_cons_succ, List.getElem?_cons_zero]; rfl) (by kernel_rfl) (by kernel_rfl) (by kernel_rfl) (by intro _ _ _ h; exact h) (Or.inl ⟨by rfl, ?_⟩) (by assumption) ?_
  rotate_left
  · (intro w hSw; (try dsimp only at hSw); obtain ⟨hS0, hS1⟩ := hSw; go_simp <;> with_reducible rfl)
  try simp only [Act.put, List.setIfInBounds_toArray, List.set_cons_zero, List.set_cons_succ]
  refine wpAnyH_take (i := 3) (v := ?_) (by simp only [List.getElem?_toArray, List.getElem?_cons_succ, List.getElem?_cons_zero]; rfl) (by kernel_rfl) (by kernel_rfl) (by kernel_rfl) (by intro _ _ _ h; exact h) (Or.inl ⟨by rfl, ?_⟩) (by assumption) ?_
  rotate_left
  · (intro w hSw; (try dsimp only at hSw); obtain ⟨hS0, hS1⟩ := hSw; go_simp <;> with_reducible rfl)
  try simp only [Act.put, List.setIfInBounds_toArray, List.set_cons_zero, List.set_cons_succ]
  refine wpAnyH_take (i := 4) (v := ?_) (by simp only [List.getElem?_toArray, List.getElem?_cons_succ, List.getElem?_cons_zero]; rfl) (by kernel_rfl) (by kernel_rfl) (by kernel_rfl) (by intro _ _ _ h; exact h) (Or.inl ⟨by rfl, ?_⟩) (by assumption) ?_
  rotate_left
  · (intro w hSw; (try dsimp only at hSw); obtain ⟨hS0, hS1⟩ := hSw; go_simp <;> with_reducible rfl)
  try simp only [Act.put, List.setIfInBounds_toArray, List.set_cons_zero, List.set_cons_succ]
  refine wpAnyH_take (i := 5) (v := ?_) (by simp only [List.getElem?_toArray, List.getElem?_cons_succ, List.getElem?_cons_zero]; rfl) (by kernel_rfl) (by kernel_rfl) (by kernel_rfl) (by intro _ _ _ h; exact h) (Or.inl ⟨by rfl, ?_⟩) (by assumption) ?_
  rotate_left
  · (intro w hSw; (try dsimp only at hSw); obtain ⟨hS0, hS1⟩ := hSw; go_simp <;> with_reducible rfl)
  try simp only [Act.put, List.setIfInBounds_toArray, List.set_cons_zero, List.set_cons_succ]
  refine wpAnyH_ready (rs := [6]) (by kernel_rfl) (by simp) ?_
  refine AllReadyH.cons (by simp only [List.getElem?_toArray, List.getElem?_cons_succ, List.getElem?_cons_zero]; rfl) (fun KK hK => ?_) AllReadyH.nil
  go_simp
  refine Calls.mono (HPd.out.p.x.read (a := a)) ?_
  rintro e w1 ⟨rfl, u1⟩
  have HP1 : Hid _ := HPd.out.up u1
  clear u1
  refine hK.out _ _ ⟨HP1.out.p.c0, HP1.out.o.fa⟩ (fun hHeld => ?_)
  clear hK KK HPd
  try simp only [Act.put, List.setIfInBounds_toArray, List.set_cons_zero, List.set_cons_succ]
  refine wpAnyH_take (i := 7) (v := ?_) (by simp only [List.getElem?_toArray, List.getElem?_cons_succ, List.getElem?_cons_zero]; rfl) (by kernel_rfl) (by kernel_rfl) (by kernel_rfl) (by intro _ _ _ h; exact h) (Or.inl ⟨by rfl, ?_⟩) (by assumption) ?_
  rotate_left
  · (intro w hSw; (try dsimp only at hSw); obtain ⟨hS0, hS1⟩ := hSw; go_simp <;> with_reducible rfl)
  try simp only [Act.put, List.setIfInBounds_toArray, List.set_cons_zero, List.set_cons_succ]
  refine wpAnyH_done (by kernel_rfl) ?_ _
  clear hHeld
  go_wp2_with fail
  refine wp_region_held_drew (S := fun w => (w.cell? ⟨pb, 1, none⟩ = some (.pointer (some ⟨Y.yb, 0, none⟩))) ∧ (w.cell? ⟨ob, 1, none⟩ = some (.int .i64 a))) (by kernel_rfl) ⟨HP1.out.p.c1, HP1.out.o.fa⟩ (fun hHeld => ?_)
  have HPd : Hid _ := HP1.out.up ((Up.refl w1).drew)
  clear HP1
  generalize World.drew w1 = wd at HPd hHeld ⊢
  refine wpAnyH_take (i := 0) (v := ?_) (by simp only [List.getElem?_toArray, List.getElem?_cons_zero]; rfl) (by kernel_rfl) (by kernel_rfl) (by kernel_rfl) (by intro _ _ _ h; exact h) (Or.inl ⟨by rfl, ?_⟩) (by assumption) ?_
  rotate_left
  · (intro w hSw; (try dsimp only at hSw); obtain ⟨hS0, hS1⟩ := hSw; go_simp <;> with_reducible rfl)
  try simp only [Act.put, List.setIfInBounds_toArray, List.set_cons_zero, List.set_cons_succ]
  refine wpAnyH_take (i := 1) (v := ?_) (by simp only [List.getElem?_toArray, List.getElem?_cons_succ, List.getElem?_cons_zero]; rfl) (by kernel_rfl) (by kernel_rfl) (by kernel_rfl) (by intro _ _ _ h; exact h) (Or.inl ⟨by rfl, ?_⟩) (by assumption) ?_
  rotate_left
  · (intro w hSw; (try dsimp only at hSw); obtain ⟨hS0, hS1⟩ := hSw; go_simp <;> with_reducible rfl)
  try simp only [Act.put, List.setIfInBounds_toArray, List.set_cons_zero, List.set_cons_succ]
  refine wpAnyH_take (i := 2) (v := ?_) (by simp only [List.getElem?_toArray, List.getElem?_cons_succ, List.getElem?_cons_zero]; rfl) (by kernel_rfl) (by kernel_rfl) (by kernel_rfl) (by intro _ _ _ h; exact h) (Or.inl ⟨by rfl, ?_⟩) (by assumption) ?_
  rotate_left
  · (intro w hSw; (try dsimp only at hSw); obtain ⟨hS0, hS1⟩ := hSw; go_simp <;> with_reducible rfl)
  try simp only [Act.put, List.setIfInBounds_toArray, List.set_cons_zero, List.set_cons_succ]
  refine wpAnyH_take (i := 3) (v := ?_) (by simp only [List.getElem?_toArray, List.getElem?_cons_succ, List.getElem?_cons_zero]; rfl) (by kernel_rfl) (by kernel_rfl) (by kernel_rfl) (by intro _ _ _ h; exact h) (Or.inl ⟨by rfl, ?_⟩) (by assumption) ?_
  rotate_left
  · (intro w hSw; (try dsimp only at hSw); obtain ⟨hS0, hS1⟩ := hSw; go_simp <;> with_reducible rfl)
  try simp only [Act.put, List.setIfInBounds_toArray, List.set_cons_zero, List.set_cons_succ]
  refine wpAnyH_take (i := 4) (v := ?_) (by simp only [List.getElem?_toArray, List.getElem?_cons_succ, List.getElem?_cons_zero]; rfl) (by kernel_rfl) (by kernel_rfl) (by kernel_rfl) (by intro _ _ _ h; exact h) (Or.inl ⟨by rfl, ?_⟩) (by assumption) ?_
  rotate_left
  · (intro w hSw; (try dsimp only at hSw); obtain ⟨hS0, hS1⟩ := hSw; go_simp <;> with_reducible rfl)
  try simp only [Act.put, List.setIfInBounds_toArray, List.set_cons_zero, List.set_cons_succ]
  refine wpAnyH_take (i := 5) (v := ?_) (by simp only [List.getElem?_toArray, List.getElem?_cons_succ, List.getElem?_cons_zero]; rfl) (by kernel_rfl) (by kernel_rfl) (by kernel_rfl) (by intro _ _ _ h; exact h) (Or.inl ⟨by rfl, ?_⟩) (by assumption) ?_
  rotate_left
  · (intro w hSw; (try dsimp only at hSw); obtain ⟨hS0, hS1⟩ := hSw; go_simp <;> with_reducible rfl)
  try simp only [Act.put, List.setIfInBounds_toArray, List.set_cons_zero, List.set_cons_succ]
  refine wpAnyH_ready (rs := [6]) (by kernel_rfl) (by simp) ?_
  refine AllReadyH.cons (by simp only [List.getElem?_toArray, List.getElem?_cons_succ, List.getElem?_cons_zero]; rfl) (fun KK hK => ?_) AllReadyH.nil
  go_simp
  refine Calls.mono (readR_any (a := a) HPd.out.p.y) ?_
  rintro e w2 ⟨rfl, u1⟩
  have HP2 : Hid _ := HPd.out.up u1
  clear u1
  refine hK.out _ _ ⟨HP2.out.p.c1, HP2.out.o.fa⟩ (fun hHeld => ?_)
  clear hK KK HPd
  try simp only [Act.put, List.setIfInBounds_toArray, List.set_cons_zero, List.set_cons_succ]
  refine wpAnyH_take (i := 7) (v := ?_) (by simp only [List.getElem?_toArray, List.getElem?_cons_succ, List.getElem?_cons_zero]; rfl) (by kernel_rfl) (by kernel_rfl) (by kernel_rfl) (by intro _ _ _ h; exact h) (Or.inl ⟨by rfl, ?_⟩) (by assumption) ?_
  rotate_left
  · (intro w hSw; (try dsimp only at hSw); obtain ⟨hS0, hS1⟩ := hSw; go_simp <;> with_reducible rfl)
  try simp only [Act.put, List.setIfInBounds_toArray, List.set_cons_zero, List.set_cons_succ]
  refine wpAnyH_done (by kernel_rfl) ?_ _
  clear hHeld
  go_wp2_with fail
  go_ret
  exact ⟨by first | rfl | (simp; done), _, _, _, _, HP2.out.p, hN⟩
set_option maxRecDepth 100000 in
set_option maxHeartbeats 2000000 in
theorem stepWriteC {N : Nat} {X : Nat} (hX : b % 256 = (X : Int)) (hX2 : X ≤ 255) (h : SpC W Q pb lo hi A Y C N w) : Calls Tryd.prog 26 #[.pointer (some ⟨pb, 0, none⟩), .agg #[.int .i64 2, .int .i64 a, .int .i64 b, .int .i64 c]] w fun e w' => e = .returned (.bool true) ∧ SpC W Q pb lo hi A Y (C.wr a X) N w' := by
  obtain ⟨S, L, H, hf, h, hN⟩ := h
  have HP0 : Hid _ := h.start (2) a b c
  clear h
  go_enter Tryd.func26, Tryd.ntmps26
  go_wp2_with fail
  generalize World.alloc w _ = w0 at HP0 ⊢
  generalize w.heap.size = ob at HP0 ⊢
  refine wp_region_held_drew (S := fun w => (w.cell? ⟨pb, 0, none⟩ = some (.pointer (some ⟨A.cb, 0, none⟩))) ∧ (w.cell? ⟨ob, 1, none⟩ = some (.int .i64 a)) ∧ (w.cell? ⟨ob, 2, none⟩ = some (.int .i64 b))) (by kernel_rfl) ⟨HP0.out.p.c0, HP0.out.o.fa, HP0.out.o.fb⟩ (fun hHeld => ?_)
  have HPd : Hid _ := HP0.out.up ((Up.refl w0).drew)
  clear HP0
  generalize World.drew w0 = wd at HPd hHeld ⊢
  refine wpAnyH_take (i := 0) (v := ?_) (by simp only [List.getElem?_toArray, List.getElem?_cons_zero]; rfl) (by kernel_rfl) (by kernel_rfl) (by kernel_rfl) (by intro _ _ _ h; exact h) (Or.inl ⟨by rfl, ?_⟩) (by assumption) ?_
  rotate_left
  · (intro w hSw; (try dsimp only at hSw); obtain ⟨hS0, hS1, hS2⟩ := hSw; go_simp <;> with_reducible rfl)
  try simp only [Act.put, List.setIfInBounds_toArray, List.set_cons_zero, List.set_cons_succ]
  refine wpAnyH_take (i := 1) (v := ?_) (by simp only [List.getElem?_toArray, List.getElem?_cons_succ, List.getElem?_cons_zero]; rfl) (by kernel_rfl) (by kernel_rfl) (by kernel_rfl) (by intro _ _ _ h; exact h) (Or.inl ⟨by rfl, ?_⟩) (by assumption) ?_
  rotate_left
  · (intro w hSw; (try dsimp only at hSw); obtain ⟨hS0, hS1, hS2⟩ := hSw; go_simp <;> with_reducible rfl)
  try simp only [Act.put, List.setIfInBounds_toArray, List.set_cons_zero, List.set_cons_succ]
  refine wpAnyH_take (i := 2) (v := ?_) (by simp only [List.getElem?_toArray, List.getElem?_cons_succ, List.getElem?_cons_zero]; rfl) (by kernel_rfl) (by kernel_rfl) (by kernel_rfl) (by intro _ _ _ h; exact h) (Or.inl ⟨by rfl, ?_⟩) (by assumption) ?_
  rotate_left
  · (intro w hSw; (try dsimp only at hSw); obtain ⟨hS0, hS1, hS2⟩ := hSw; go_simp <;> with_reducible rfl)
  try simp only [Act.put, List.setIfInBounds_toArray, List.set_cons_zero, List.set_cons_succ]
  refine wpAnyH_take (i := 3) (v := ?_) (by simp only [List.getElem?_toArray, List.getElem?_cons_succ, List.getElem?_cons_zero]; rfl) (by kernel_rfl) (by kernel_rfl) (by kernel_rfl) (by intro _ _ _ h; exact h) (Or.inl ⟨by rfl, ?_⟩) (by assumption) ?_
  rotate_left
  · (intro w hSw; (try dsimp only at hSw); obtain ⟨hS0, hS1, hS2⟩ := hSw; go_simp <;> with_reducible rfl)
  try simp only [Act.put, List.setIfInBounds_toArray, List.set_cons_zero, List.set_cons_succ]
  refine wpAnyH_take (i := 4) (v := ?_) (by simp only [List.getElem?_toArray, List.getElem?_cons_succ, List.getElem?_cons_zero]; rfl) (by kernel_rfl) (by kernel_rfl) (by kernel_rfl) (by intro _ _ _ h; exact h) (Or.inl ⟨by rfl, ?_⟩) (by assumption) ?_
  rotate_left
  · (intro w hSw; (try dsimp only at hSw); obtain ⟨hS0, hS1, hS2⟩ := hSw; go_simp <;> with_reducible rfl)
  try simp only [Act.put, List.setIfInBounds_toArray, List.set_cons_zero, List.set_cons_succ]
  refine wpAnyH_take (i := 5) (v := ?_) (by simp only [List.getElem?_toArray, List.getElem?_cons_succ, List.getElem?_cons_zero]; rfl) (by kernel_rfl) (by kernel_rfl) (by kernel_rfl) (by intro _ _ _ h; exact h) (Or.inl ⟨by rfl, ?_⟩) (by assumption) ?_
  rotate_left
  · (intro w hSw; (try dsimp only at hSw); obtain ⟨hS0, hS1, hS2⟩ := hSw; go_simp <;> with_reducible rfl)
  try simp only [Act.put, List.setIfInBounds_toArray, List.set_cons_zero, List.set_cons_succ]
  refine wpAnyH_take (i := 6) (v := ?_) (by simp only [List.getElem?_toArray, List.getElem?_cons_succ, List.getElem?_cons_zero]; rfl) (by kernel_rfl) (by kernel_rfl) (by kernel_rfl) (by intro _ _ _ h; exact h) (Or.inl ⟨by rfl, ?_⟩) (by assumption) ?_
  rotate_left
  · (intro w hSw; (try dsimp only at hSw); obtain ⟨hS0, hS1, hS2⟩ := hSw; go_simp <;> with_reducible rfl)
  try simp only [Act.put, List.setIfInBounds_toArray, List.set_cons_zero, List.set_cons_succ]
  refine wpAnyH_take (i := 7) (v := ?_) (by simp only [List.getElem?_toArray, List.getElem?_cons_succ, List.getElem?_cons_zero]; rfl) (by kernel_rfl) (by kernel_rfl) (by kernel_rfl) (by intro _ _ _ h; exact h) (Or.inl ⟨by rfl, ?_⟩) (by assumption) ?_
  rotate_left
  · (intro w hSw; (try dsimp only at hSw); obtain ⟨hS0, hS1, hS2⟩ := hSw; go_simp <;> with_reducible rfl)
  try simp only [Act.put, List.setIfInBounds_toArray, List.set_cons_zero, List.set_cons_succ]
  refine wpAnyH_take (i := 8) (v := ?_) (by simp only [List.getElem?_toArray, List.getElem?_cons_succ, List.getElem?_cons_zero]; rfl) (by kernel_rfl) (by kernel_rfl) (by kernel_rfl) (by intro _ _ _ h; exact h) (Or.inl ⟨by rfl, ?_⟩) (by assumption) ?_
  rotate_left
  · (intro w hSw; (try dsimp only at hSw); obtain ⟨hS0, hS1, hS2⟩ := hSw; go_simp <;> with_reducible rfl)
  try simp only [Act.put, List.setIfInBounds_toArray, List.set_cons_zero, List.set_cons_succ]
  refine wpAnyH_ready (rs := [9]) (by kernel_rfl) (by simp) ?_
  refine AllReadyH.cons (by simp only [List.getElem?_toArray, List.getElem?_cons_succ, List.getElem?_cons_zero]; rfl) (fun KK hK => ?_) AllReadyH.nil
  go_simp
  refine Calls.mono (by have q := HPd.out.p.x.write (a := a) hX2; rw [← hX] at q; exact q) ?_
  rintro e w1 ⟨rfl, z1, f1⟩
  have HP1 : Hid _ := HPd.out.chX z1 f1 (by rw [(wr_bat C a X).1, (wr_bat C a X).2]; exact HPd.out.p.hb)
  clear z1 f1
  refine hK.out _ _ ⟨HP1.out.p.c0, HP1.out.o.fa, HP1.out.o.fb⟩ (fun hHeld => ?_)
  clear hK KK HPd
  try simp only [Act.put, List.setIfInBounds_toArray, List.set_cons_zero, List.set_cons_succ]
  refine wpAnyH_done (by kernel_rfl) ?_ _
  clear hHeld
  go_wp2_with fail
  refine wp_region_held_drew (S := fun w => (w.cell? ⟨pb, 1, none⟩ = some (.pointer (some ⟨Y.yb, 0, none⟩))) ∧ (w.cell? ⟨ob, 1, none⟩ = some (.int .i64 a)) ∧ (w.cell? ⟨ob, 2, none⟩ = some (.int .i64 b))) (by kernel_rfl) ⟨HP1.out.p.c1, HP1.out.o.fa, HP1.out.o.fb⟩ (fun hHeld => ?_)
  have HPd : Hid _ := HP1.out.up ((Up.refl w1).drew)
  clear HP1
  generalize World.drew w1 = wd at HPd hHeld ⊢
  refine wpAnyH_take (i := 0) (v := ?_) (by simp only [List.getElem?_toArray, List.getElem?_cons_zero]; rfl) (by kernel_rfl) (by kernel_rfl) (by kernel_rfl) (by intro _ _ _ h; exact h) (Or.inl ⟨by rfl, ?_⟩) (by assumption) ?_
  rotate_left
  · (intro w hSw; (try dsimp only at hSw); obtain ⟨hS0, hS1, hS2⟩ := hSw; go_simp <;> with_reducible rfl)
  try simp only [Act.put, List.setIfInBounds_toArray, List.set_cons_zero, List.set_cons_succ]
  refine wpAnyH_take (i := 1) (v := ?_) (by simp only [List.getElem?_toArray, List.getElem?_cons_succ, List.getElem?_cons_zero]; rfl) (by kernel_rfl) (by kernel_rfl) (by kernel_rfl) (by intro _ _ _ h; exact h) (Or.inl ⟨by rfl, ?_⟩) (by assumption) ?_
  rotate_left
  · (intro w hSw; (try dsimp only at hSw); obtain ⟨hS0, hS1, hS2⟩ := hSw; go_simp <;> with_reducible rfl)
  try simp only [Act.put, List.setIfInBounds_toArray, List.set_cons_zero, List.set_cons_succ]
  refine wpAnyH_take (i := 2) (v := ?_) (by simp only [List.getElem?_toArray, List.getElem?_cons_succ, List.getElem?_cons_zero]; rfl) (by kernel_rfl) (by kernel_rfl) (by kernel_rfl) (by intro _ _ _ h; exact h) (Or.inl ⟨by rfl, ?_⟩) (by assumption) ?_
  rotate_left
  · (intro w hSw; (try dsimp only at hSw); obtain ⟨hS0, hS1, hS2⟩ := hSw; go_simp <;> with_reducible rfl)
  try simp only [Act.put, List.setIfInBounds_toArray, List.set_cons_zero, List.set_cons_succ]
  refine wpAnyH_take (i := 3) (v := ?_) (by simp only [List.getElem?_toArray, List.getElem?_cons_succ, List.getElem?_cons_zero]; rfl) (by kernel_rfl) (by kernel_rfl) (by kernel_rfl) (by intro _ _ _ h; exact h) (Or.inl ⟨by rfl, ?_⟩) (by assumption) ?_
  rotate_left
  · (intro w hSw; (try dsimp only at hSw); obtain ⟨hS0, hS1, hS2⟩ := hSw; go_simp <;> with_reducible rfl)
  try simp only [Act.put, List.setIfInBounds_toArray, List.set_cons_zero, List.set_cons_succ]
  refine wpAnyH_take (i := 4) (v := ?_) (by simp only [List.getElem?_toArray, List.getElem?_cons_succ, List.getElem?_cons_zero]; rfl) (by kernel_rfl) (by kernel_rfl) (by kernel_rfl) (by intro _ _ _ h; exact h) (Or.inl ⟨by rfl, ?_⟩) (by assumption) ?_
  rotate_left
  · (intro w hSw; (try dsimp only at hSw); obtain ⟨hS0, hS1, hS2⟩ := hSw; go_simp <;> with_reducible rfl)
  try simp only [Act.put, List.setIfInBounds_toArray, List.set_cons_zero, List.set_cons_succ]
  refine wpAnyH_take (i := 5) (v := ?_) (by simp only [List.getElem?_toArray, List.getElem?_cons_succ, List.getElem?_cons_zero]; rfl) (by kernel_rfl) (by kernel_rfl) (by kernel_rfl) (by intro _ _ _ h; exact h) (Or.inl ⟨by rfl, ?_⟩) (by assumption) ?_
  rotate_left
  · (intro w hSw; (try dsimp only at hSw); obtain ⟨hS0, hS1, hS2⟩ := hSw; go_simp <;> with_reducible rfl)
  try simp only [Act.put, List.setIfInBounds_toArray, List.set_cons_zero, List.set_cons_succ]
  refine wpAnyH_take (i := 6) (v := ?_) (by simp only [List.getElem?_toArray, List.getElem?_cons_succ, List.getElem?_cons_zero]; rfl) (by kernel_rfl) (by kernel_rfl) (by kernel_rfl) (by intro _ _ _ h; exact h) (Or.inl ⟨by rfl, ?_⟩) (by assumption) ?_
  rotate_left
  · (intro w hSw; (try dsimp only at hSw); obtain ⟨hS0, hS1, hS2⟩ := hSw; go_simp <;> with_reducible rfl)
  try simp only [Act.put, List.setIfInBounds_toArray, List.set_cons_zero, List.set_cons_succ]
  refine wpAnyH_take (i := 7) (v := ?_) (by simp only [List.getElem?_toArray, List.getElem?_cons_succ, List.getElem?_cons_zero]; rfl) (by kernel_rfl) (by kernel_rfl) (by kernel_rfl) (by intro _ _ _ h; exact h) (Or.inl ⟨by rfl, ?_⟩) (by assumption) ?_
  rotate_left
  · (intro w hSw; (try dsimp only at hSw); obtain ⟨hS0, hS1, hS2⟩ := hSw; go_simp <;> with_reducible rfl)
  try simp only [Act.put, List.setIfInBounds_toArray, List.set_cons_zero, List.set_cons_succ]
  refine wpAnyH_take (i := 8) (v := ?_) (by simp only [List.getElem?_toArray, List.getElem?_cons_succ, List.getElem?_cons_zero]; rfl) (by kernel_rfl) (by kernel_rfl) (by kernel_rfl) (by intro _ _ _ h; exact h) (Or.inl ⟨by rfl, ?_⟩) (by assumption) ?_
  rotate_left
  · (intro w hSw; (try dsimp only at hSw); obtain ⟨hS0, hS1, hS2⟩ := hSw; go_simp <;> with_reducible rfl)
  try simp only [Act.put, List.setIfInBounds_toArray, List.set_cons_zero, List.set_cons_succ]
  refine wpAnyH_ready (rs := [9]) (by kernel_rfl) (by simp) ?_
  refine AllReadyH.cons (by simp only [List.getElem?_toArray, List.getElem?_cons_succ, List.getElem?_cons_zero]; rfl) (fun KK hK => ?_) AllReadyH.nil
  go_simp
  refine Calls.mono (by have q := writeR_any (a := a) HPd.out.p.y hX2; rw [← hX] at q; exact q) ?_
  rintro e w2 ⟨rfl, z1, f1⟩
  have HP2 : Hid _ := HPd.out.chY z1 f1
  clear z1 f1
  refine hK.out _ _ ⟨HP2.out.p.c1, HP2.out.o.fa, HP2.out.o.fb⟩ (fun hHeld => ?_)
  clear hK KK HPd
  try simp only [Act.put, List.setIfInBounds_toArray, List.set_cons_zero, List.set_cons_succ]
  refine wpAnyH_done (by kernel_rfl) ?_ _
  clear hHeld
  go_wp2_with fail
  go_ret
  exact ⟨by first | rfl | (simp; done), _, _, _, _, HP2.out.p, hN⟩
end Go.Proofs.YtojlappgmckokaaDoor
/- Cart: the first pair of the law. -/
namespace Go.Proofs.YtojlappgmckokaaDoor
open Go.Shelf Go.RowKit
set_option linter.unusedVariables false
set_option linter.unusedSimpArgs false
variable {w w' W : World} {C : Ct} {Q : Qk} {pb lo hi : Nat} {A : Ad} {Y : Yd}
theorem y_nine (hm : C.m = Mp.new 1) (hr : C.rm = 8192) (hz : ∀ k, C.rf k = 0) : ((C.wr 0 10).wr 40961 9).rd 40961 = 9 ∧ ((C.wr 0 10).wr 40961 9).rd 40962 = 0 := by
  have e1 : C.wr 0 10 = C.set 0 10 := by unfold Ct.wr; rw [if_pos (by decide)]; rfl
  have em : (C.set 0 10).m = ⟨1, 1, 1, 0, 0, 0⟩ := by show C.m.set 0 10 = _; rw [hm]; rfl
  have er : (C.set 0 10).rm = 8192 := hr
  have ez : ∀ k, (C.set 0 10).rf k = 0 := hz
  rw [e1]
  generalize C.set 0 10 = D at em er ez
  have hsn : D.m.seen = true := by rw [em]; rfl
  have hh : ∀ a : Int, 40960 ≤ a → a < 49152 → D.here a := fun a h1 h2 => ⟨h1, h2, by omega, hsn⟩
  have pt : ∀ a, D.at' a = (a - 40960).toNat % 8192 := fun a => by
    show (D.m.bank * 8192 + (a - 40960).toNat) % D.rm = _
    rw [er, em]
    show (0 * 8192 + _) % _ = _
    rw [Nat.zero_mul, Nat.zero_add]
  have p1 : D.at' 40961 = 1 := by rw [pt]; rfl
  have p2 : D.at' 40962 = 2 := by rw [pt]; rfl
  have e : D.wr 40961 9 = D.put 40961 9 := by unfold Ct.wr; rw [if_neg (by omega), if_pos (hh 40961 (by omega) (by omega))]
  have er2 : (D.put 40961 9).rf = putF D.rf 1 1 (fun _ => D.m.keeps ((9 : Nat) : Int)) := by show putF D.rf (D.at' 40961) 1 (fun _ => D.m.keeps ((9 : Nat) : Int)) = _; rw [p1]
  have h1 : (D.put 40961 9).here 40961 := hh 40961 (by omega) (by omega)
  have h2 : (D.put 40961 9).here 40962 := hh 40962 (by omega) (by omega)
  have q1 : (D.put 40961 9).at' 40961 = 1 := p1
  have q2 : (D.put 40961 9).at' 40962 = 2 := p2
  have qm : (D.put 40961 9).m = D.m := rfl
  rw [e]
  generalize D.put 40961 9 = G at er2 h1 h2 q1 q2 qm
  constructor
  · unfold Ct.rd
    rw [if_neg (by omega), if_neg (by omega), if_neg (by omega), if_pos h1, q1, er2, qm, em]
    rfl
  · unfold Ct.rd
    rw [if_neg (by omega), if_neg (by omega), if_neg (by omega), if_pos h2, q2, er2, qm, em]
    show Mp.shows _ (if 1 ≤ 2 ∧ 2 < 1 + 1 then _ else D.rf 2) = 0
    rw [if_neg (by omega), ez 2]
    rfl
theorem first_is {N : Nat} (hN : N = 65536) {sf : Nat → Int} {x : Int} {oc : Option Ct} (h : Wants (romF ((3 : Nat) : Int) ((1 : Nat) : Int) ((2 : Nat) : Int) 0) N 0 sf x oc) : x = 0 ∧ ∃ C, oc = some C ∧ C.m = Mp.new 1 ∧ C.rm = 8192 ∧ ∀ k, C.rf k = 0 := by
  rcases h with ⟨h0, _⟩ | ⟨_, R, b, mk, r1, m1, h⟩
  · exact absurd ⟨by omega, by omega⟩ h0
  obtain ⟨hR, hf, e8, e9⟩ := fault_none (R0 := ⟨3, 1, 128, 2, 3, true⟩) (ty := 3) (rc := 1) (rm := 2) (n := N) (by simp [rowsT]) rfl (by decide) (by decide) (by decide) (by decide) (by omega) (by decide) (by decide) r1 m1
  rcases h with ⟨q, _⟩ | ⟨_, q, _⟩ | ⟨_, _, rfl, m, _, rfl⟩
  · exact absurd hf q
  · omega
  · refine ⟨rfl, _, rfl, ?_, ?_, fun k => ?_⟩
    · rw [hR]; rfl
    · show ramN R (romF ((3 : Nat) : Int) ((1 : Nat) : Int) ((2 : Nat) : Int) 0 329).toNat = 8192
      rw [hR, e9]
      rfl
    · show (if k < 0 then sf k else 0) = 0
      rw [if_neg (Nat.not_lt_zero k)]
theorem SpC.setQ {N : Nat} (h : SpC W Q pb lo hi A Y C N w) (x : Obj) : SpC W ⟨fun b => b = w.heap.size, w.alloc x⟩ pb lo hi A Y C N (w.alloc x) := by
  obtain ⟨S, L, H, hf, h, hl⟩ := h
  exact ⟨S, L, H, hf, h.setQ x, hl⟩
theorem SpC.kept {N b : Nat} (h : SpC W Q pb lo hi A Y C N w) (hb : Q.K b) : w.heap[b]? = Q.W.heap[b]? := by
  obtain ⟨S, L, H, hf, h, hl⟩ := h
  exact (h.kp b hb).2.2.2.2
theorem SpC.up {N : Nat} (h : SpC W Q pb lo hi A Y C N w) : Up W w := by
  obtain ⟨S, L, H, hf, h, hl⟩ := h
  exact h.up
theorem SpC.upW {N : Nat} (h : SpC W Q pb lo hi A Y C N w) (u : Up w w') : SpC W Q pb lo hi A Y C N w' := by
  obtain ⟨S, L, H, hf, h, hl⟩ := h
  exact ⟨S, L, H, hf, h.upW u, hl⟩
theorem SpC.read {N : Nat} {a : Int} (h : SpC W Q pb lo hi A Y C N w) : Calls Tryd.prog 17 #[.pointer (some ⟨A.cb, 0, none⟩), .int .i64 a] w fun e w' => e = .returned (.int .u8 (C.rd a)) ∧ Up w w' := by
  obtain ⟨S, L, H, hf, h, hl⟩ := h
  exact h.x.read
theorem SpC.c0 {N : Nat} (h : SpC W Q pb lo hi A Y C N w) : w.cell? ⟨pb, 0, none⟩ = some (.pointer (some ⟨A.cb, 0, none⟩)) := by
  obtain ⟨S, L, H, hf, h, hl⟩ := h
  exact h.c0
/-- the steps of a list -/
def rowQ (k a b c : Int) : List Value := [.int .i64 k, .int .i64 a, .int .i64 b, .int .i64 c]
theorem Ops4.row {oa : Option Addr} {ob oo on oc : Nat} {q : Nat → Nat → Int} (h : Ops4 w oa ob oo on oc q) {i : Nat} (hi : i < on) : w.rangeAt ob (oo + i * 4) (rowQ (q i 0) (q i 1) (q i 2) (q i 3)) := fun j v hj => by
  have c := h.cell i hi
  match j, hj with
  | 0, hj => simp [rowQ] at hj; subst hj; exact c 0 (by decide)
  | 1, hj => simp [rowQ] at hj; subst hj; exact c 1 (by decide)
  | 2, hj => simp [rowQ] at hj; subst hj; exact c 2 (by decide)
  | 3, hj => simp [rowQ] at hj; subst hj; exact c 3 (by decide)
theorem range_cells {b : Nat} {xs ys zs : List Value} {ty : TypeId} (h : w.heap[b]? = some (.cells (xs ++ ys ++ zs).toArray ty (0, 0))) : w.rangeAt b xs.length ys := fun j v hj => by
  refine heap_cell h ?_
  have hl := (List.getElem?_eq_some_iff.1 hj).1
  rw [List.getElem?_toArray, List.getElem?_append_left (by rw [List.length_append]; omega), List.getElem?_append_right (by omega)]
  rw [Nat.add_sub_cancel_left]
  exact hj
/-- the first pair's cartridge, step by step -/
def stC (C : Ct) : Nat → Ct
  | 0 => C
  | 1 => C.wr 0 10
  | _ => (C.wr 0 10).wr 40961 9
def headL : List Value := rowQ 2 0 10 0 ++ rowQ 2 40961 9 0 ++ rowQ 1 40961 0 0 ++ rowQ 1 17767 0 0
def headQ (i : Nat) : Int × Int × Int := if i = 0 then (2, 0, 10) else if i = 1 then (2, 40961, 9) else if i = 2 then (1, 40961, 0) else (1, 17767, 0)
theorem head_row {b i : Nat} (hi : i < 4) (h : w.heap[b]? = some (.cells headL.toArray 52 (0, 0))) : w.rangeAt b (i * 4) (rowQ (headQ i).1 (headQ i).2.1 (headQ i).2.2 0) := by
  match i, hi with
  | 0, _ => exact range_cells (xs := []) (ys := rowQ 2 0 10 0) (zs := rowQ 2 40961 9 0 ++ rowQ 1 40961 0 0 ++ rowQ 1 17767 0 0) h
  | 1, _ => exact range_cells (xs := rowQ 2 0 10 0) (ys := rowQ 2 40961 9 0) (zs := rowQ 1 40961 0 0 ++ rowQ 1 17767 0 0) h
  | 2, _ => exact range_cells (xs := rowQ 2 0 10 0 ++ rowQ 2 40961 9 0) (ys := rowQ 1 40961 0 0) (zs := rowQ 1 17767 0 0) h
  | 3, _ => exact range_cells (xs := rowQ 2 0 10 0 ++ rowQ 2 40961 9 0 ++ rowQ 1 40961 0 0) (ys := rowQ 1 17767 0 0) (zs := []) h
theorem head_step {N i : Nat} (hi4 : i < 4) (h : SpC W Q pb lo hi A Y (stC C i) N w) : Calls Tryd.prog 26 #[.pointer (some ⟨pb, 0, none⟩), .agg #[.int .i64 (headQ i).1, .int .i64 (headQ i).2.1, .int .i64 (headQ i).2.2, .int .i64 0]] w fun e w' => e = .returned (.bool true) ∧ SpC W Q pb lo hi A Y (stC C (i + 1)) N w' := by
  obtain rfl | rfl | rfl | rfl : i = 0 ∨ i = 1 ∨ i = 2 ∨ i = 3 := by omega
  · exact stepWriteC (C := C) (X := 10) (a := 0) (b := 10) (c := 0) (by decide) (by decide) h
  · exact stepWriteC (C := C.wr 0 10) (X := 9) (a := 40961) (b := 9) (c := 0) (by decide) (by decide) h
  · exact stepReadC (C := (C.wr 0 10).wr 40961 9) (a := 40961) (b := 0) (c := 0) h
  · exact stepReadC (C := (C.wr 0 10).wr 40961 9) (a := 17767) (b := 0) (c := 0) h
/-- what is done in the end -/
def lastL : List Value := rowQ 6 0 0 0 ++ rowQ 1 0 0 0 ++ rowQ 1 16384 0 0 ++ rowQ 1 32767 0 0 ++ rowQ 1 40960 0 0 ++ rowQ 3 0 0 0 ++ rowQ 4 0 0 0
def lastQ (i : Nat) : Int × Int := if i = 0 then (6, 0) else if i = 1 then (1, 0) else if i = 2 then (1, 16384) else if i = 3 then (1, 32767) else if i = 4 then (1, 40960) else if i = 5 then (3, 0) else (4, 0)
theorem last_i64 (i : Nat) : I64 (lastQ i).2 := by
  unfold lastQ
  repeat' split
  all_goals (unfold I64; decide)
theorem last_row {b i : Nat} (hi : i < 7) (h : w.heap[b]? = some (.cells lastL.toArray 52 (0, 0))) : w.rangeAt b (i * 4) (rowQ (lastQ i).1 (lastQ i).2 0 0) := by
  match i, hi with
  | 0, _ => exact range_cells (xs := []) (ys := rowQ 6 0 0 0) (zs := rowQ 1 0 0 0 ++ rowQ 1 16384 0 0 ++ rowQ 1 32767 0 0 ++ rowQ 1 40960 0 0 ++ rowQ 3 0 0 0 ++ rowQ 4 0 0 0) h
  | 1, _ => exact range_cells (xs := rowQ 6 0 0 0) (ys := rowQ 1 0 0 0) (zs := rowQ 1 16384 0 0 ++ rowQ 1 32767 0 0 ++ rowQ 1 40960 0 0 ++ rowQ 3 0 0 0 ++ rowQ 4 0 0 0) h
  | 2, _ => exact range_cells (xs := rowQ 6 0 0 0 ++ rowQ 1 0 0 0) (ys := rowQ 1 16384 0 0) (zs := rowQ 1 32767 0 0 ++ rowQ 1 40960 0 0 ++ rowQ 3 0 0 0 ++ rowQ 4 0 0 0) h
  | 3, _ => exact range_cells (xs := rowQ 6 0 0 0 ++ rowQ 1 0 0 0 ++ rowQ 1 16384 0 0) (ys := rowQ 1 32767 0 0) (zs := rowQ 1 40960 0 0 ++ rowQ 3 0 0 0 ++ rowQ 4 0 0 0) h
  | 4, _ => exact range_cells (xs := rowQ 6 0 0 0 ++ rowQ 1 0 0 0 ++ rowQ 1 16384 0 0 ++ rowQ 1 32767 0 0) (ys := rowQ 1 40960 0 0) (zs := rowQ 3 0 0 0 ++ rowQ 4 0 0 0) h
  | 5, _ => exact range_cells (xs := rowQ 6 0 0 0 ++ rowQ 1 0 0 0 ++ rowQ 1 16384 0 0 ++ rowQ 1 32767 0 0 ++ rowQ 1 40960 0 0) (ys := rowQ 3 0 0 0) (zs := rowQ 4 0 0 0) h
  | 6, _ => exact range_cells (xs := rowQ 6 0 0 0 ++ rowQ 1 0 0 0 ++ rowQ 1 16384 0 0 ++ rowQ 1 32767 0 0 ++ rowQ 1 40960 0 0 ++ rowQ 3 0 0 0) (ys := rowQ 4 0 0 0) (zs := []) h
end Go.Proofs.YtojlappgmckokaaDoor
