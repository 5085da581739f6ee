/- CpuWords: what the walk leans on. -/
import Derived.Test.YtfbfpcjnpegccaaGreatDoorLxW
namespace Go.Proofs.YtfbfpcjnpegccaaGreatDoor
open Go.RowKit
set_option linter.unusedVariables false
theorem bnd512 (g : Rg) : bnd { bnd g with pc := 512 } = { bnd g with pc := 512 } := by
  refine pick_ok _ ?_ rfl
  have o := bnd_ok g
  exact { o with pc := (show (0 : Int) ≤ 512 ∧ (512 : Int) ≤ 65535 by decide) }
theorem In_of_ok {g : Rg} (o : g.Ok) : g.In := by
  have h1 := o.a
  have h2 := o.f
  have h3 := o.b
  have h4 := o.c
  have h5 := o.d
  have h6 := o.e
  have h7 := o.h
  have h8 := o.l
  have h9 := o.sp
  have h10 := o.pc
  constructor <;> (unfold I64; omega)
theorem pcsW (w4 : World) (a b : Int) (a1 : 0 ≤ a) (a2 : a ≤ 65535) (b1 : 0 ≤ b) (b2 : b ≤ 65535) :
    Pcs ((w4.alloc (.cells #[.int .u8 33, .int .u8 (a % 256), .int .u8 (a / 256), .int .u8 17, .int .u8 (b % 256), .int .u8 (b / 256), .int .u8 19, .int .u8 43, .int .u8 25, .int .u8 249, .int .u8 8, .int .u8 0, .int .u8 3] 5)).alloc (.cells #[.int .i64 512, .slice (some ⟨w4.heap.size, 0, none⟩) 13 13] 32)) (w4.heap.size + 1) [⟨512, wBs a b⟩] := by
  have hA : ∀ o p k, ((w4.alloc o).alloc p).cell? ⟨w4.heap.size, k, none⟩ = (w4.alloc o).cell? ⟨w4.heap.size, k, none⟩ := fun o p k => World.cell?_alloc_lt _ _ _ (by simp)
  have hN : ∀ (o : Obj) (c : Array Value) (ty : TypeId) (k : Nat), ((w4.alloc o).alloc (.cells c ty)).cell? ⟨w4.heap.size + 1, k, none⟩ = c[k]? := fun o c ty k => by
    have := World.cell?_alloc_new (w4.alloc o) c ty k
    rw [show (w4.alloc o).heap.size = w4.heap.size + 1 by simp] at this
    exact this
  refine ⟨by simp, fun i h => ?_⟩
  have hi : i = 0 := by simp at h; omega
  subst hi
  refine ⟨(show -9223372036854775808 ≤ (512 : Int) ∧ (512 : Int) ≤ 9223372036854775807 by decide), w4.heap.size, by simp; omega, ?_, ?_, (show 13 ≤ 1000 by decide), fun k hk => ?_⟩
  · rw [hN]; rfl
  · rw [hN]; rfl
  · have hk' : k < 13 := hk
    have : k = 0 ∨ k = 1 ∨ k = 2 ∨ k = 3 ∨ k = 4 ∨ k = 5 ∨ k = 6 ∨ k = 7 ∨ k = 8 ∨ k = 9 ∨ k = 10 ∨ k = 11 ∨ k = 12 := by omega
    rw [hA, World.cell?_alloc_new]
    rcases this with rfl | rfl | rfl | rfl | rfl | rfl | rfl | rfl | rfl | rfl | rfl | rfl | rfl
    all_goals refine ⟨rfl, ?_⟩
    all_goals simp [wBs]
    all_goals omega
theorem words_mem (gp : Nat) (A B : Int) (W5 : World) (hp : Pcs W5 gp [⟨512, wBs A B⟩]) :
    Calls Tryz.prog 17 #[.slice (some ⟨gp, 0, none⟩) 1 1] W5 fun e w' => e = .returned (.slice (some ⟨W5.heap.size, 0, none⟩) 65536 65536) ∧ Mem w' W5.heap.size (wF A B) ∧ Up W5 w' := by
  have h := memory_any gp [⟨512, wBs A B⟩] (show 1 ≤ 1000 by decide) W5 hp
  unfold wF
  rw [show ([⟨512, wBs A B⟩] : List Pc).length = 1 from rfl] at h
  exact h
theorem Fr2.up {b g : Nat} {w x y : World} (h : Up w x) (hb : w.heap.size ≤ b) (hg : w.heap.size ≤ g) (k : Fr2 b g x y) : Up w y :=
  ⟨k.os.trans h.os, k.output.trans h.output, Nat.le_trans h.size k.size, fun j hj => (k.block j (Nat.lt_of_lt_of_le hj h.size) (by omega) (by omega)).trans (h.block j hj)⟩
theorem Fr2.cellq {b g : Nat} {w w' : World} (h : Fr2 b g w w') {p k : Nat} (hp : p < w.heap.size) (hb : p ≠ b) (hg : p ≠ g) : w'.cell? ⟨p, k, none⟩ = w.cell? ⟨p, k, none⟩ := by
  unfold World.cell?
  rw [show (w'.heap[(⟨p, k, none⟩ : Addr).block]?) = w.heap[(⟨p, k, none⟩ : Addr).block]? from h.block _ hp hb hg]
theorem runs_inv (st : Nat → Pm) (kc : Nat → Nat) (n : Nat) (hn : n ≤ 1000) (hc : ∀ i, i < n → Ins (st i) (kc i) (st (i + 1))) (v : (st 0).1.Inv) (hf : Byt (st 0).2) : (st n).1.Inv ∧ Byt (st n).2 := by
  have : ∀ i, i ≤ n → (st i).1.Inv ∧ Byt (st i).2 := by
    intro i
    induction i with
    | zero => exact fun _ => ⟨v, hf⟩
    | succ i ih =>
      intro hi
      have := ih (by omega)
      rw [← (hc i (by omega)).eq]
      exact cycN_inv _ this.1 this.2 _
  exact this n (Nat.le_refl _)
theorem words_inv (G : Rg) (o : ({ G with pc := 512 } : Rg).Ok) (hs : G.state = 0) (A B : Int) : (wSt (rgF G) G.sp G.ime A B 0).1.Inv := by
  have e0 : ofRg { G with pc := 512 } = (wSt (rgF G) G.sp G.ime A B 0).1 := by
    show ofRg { G with pc := 512 } = bd (rgF G) G.sp 512 G.ime
    unfold ofRg bd
    simp only [hs]
    rfl
  rw [← e0]
  exact ofRg_inv _ o
theorem words_byt (A B : Int) (a1 : 0 ≤ A) (a2 : A ≤ 65535) (b1 : 0 ≤ B) (b2 : B ≤ 65535) : Byt (wF A B) := by
  intro i
  have key : ∀ (k : Nat) (f : Nat → Int), Byt f → k ≤ 13 → Byt (lay f 512 (wBs A B) k) := by
    intro k
    induction k with
    | zero => exact fun f hf _ => hf
    | succ k ih =>
      intro f hf hk
      refine upd_ok (ih f hf (by omega)) _ _ ?_
      have : k = 0 ∨ k = 1 ∨ k = 2 ∨ k = 3 ∨ k = 4 ∨ k = 5 ∨ k = 6 ∨ k = 7 ∨ k = 8 ∨ k = 9 ∨ k = 10 ∨ k = 11 ∨ k = 12 := by omega
      rcases this with rfl | rfl | rfl | rfl | rfl | rfl | rfl | rfl | rfl | rfl | rfl | rfl | rfl <;> simp [wBs] <;> omega
  exact key 13 _ (fun _ => (show (0 : Int) ≤ 0 ∧ (0 : Int) ≤ 255 by decide)) (by decide) i
theorem words_runs (G : Rg) (o : ({ G with pc := 512 } : Rg).Ok) (hs : G.state = 0) (A B : Int) (a1 : 0 ≤ A) (a2 : A ≤ 65535) (b1 : 0 ≤ B) (b2 : B ≤ 65535) (W : World) (b gm : Nat) (h : Cp W b (ofRg { G with pc := 512 })) (hL : Lb b W) (hm : Mem W gm (wF A B)) (hgb : gm ≠ b) (hg0 : gm ≠ 0) :
    Calls Tryz.prog 18 #[.pointer (some ⟨b, 0, none⟩), .slice (some ⟨gm, 0, none⟩) 65536 65536, .int .i64 7] W fun e w' => e = .returned (.tuple #[.int .i64 19, .bool true]) ∧ Cp w' b (bd (wR5 (rgF G) A B) (wSp A B) 525 G.ime) ∧ Mem w' gm (wM A B) ∧ Fr2 b gm W w' := by
  have e0 : ofRg { G with pc := 512 } = (wSt (rgF G) G.sp G.ime A B 0).1 := by
    show ofRg { G with pc := 512 } = bd (rgF G) G.sp 512 G.ime
    unfold ofRg bd
    simp only [hs]
    rfl
  have hb : Byt (wF A B) := by
    intro i
    have key : ∀ (k : Nat) (f : Nat → Int), Byt f → k ≤ 13 → Byt (lay f 512 (wBs A B) k) := by
      intro k
      induction k with
      | zero => exact fun f hf _ => hf
      | succ k ih =>
        intro f hf hk
        refine upd_ok (ih f hf (by omega)) _ _ ?_
        have : k = 0 ∨ k = 1 ∨ k = 2 ∨ k = 3 ∨ k = 4 ∨ k = 5 ∨ k = 6 ∨ k = 7 ∨ k = 8 ∨ k = 9 ∨ k = 10 ∨ k = 11 ∨ k = 12 := by omega
        rcases this with rfl | rfl | rfl | rfl | rfl | rfl | rfl | rfl | rfl | rfl | rfl | rfl | rfl <;> simp [wBs] <;> omega
    exact key 13 _ (fun _ => (show (0 : Int) ≤ 0 ∧ (0 : Int) ≤ 255 by decide)) (by decide) i
  rw [e0] at h
  have v := ofRg_inv { G with pc := 512 } o
  rw [e0] at v
  exact runs_any 7 (by decide) (wSt (rgF G) G.sp G.ime A B) wK b gm W h v hL hm hb hgb hg0 (fun i hi => wIns _ _ _ _ _ i hi) wK7
theorem words_fin (r : Nat → Int) (hr : 0 ≤ r 6 ∧ r 6 ≤ 255) (A B : Int) (a1 : 0 ≤ A) (a2 : A ≤ 65535) (b1 : 0 ≤ B) (b2 : B ≤ 65535) :
    256 * wR5 r A B 2 + wR5 r A B 3 = (B + 1) % 65536 ∧ 256 * wR5 r A B 4 + wR5 r A B 5 = ((A + 65535) % 65536 + (B + 1) % 65536) % 65536 ∧ wSp A B = ((A + 65535) % 65536 + (B + 1) % 65536) % 65536 ∧ wM A B 768 + 256 * wM A B 769 = wSp A B ∧
    (bits .and .i64 (wR5 r A B 6) 16 != 0) = decide (65535 < (A + 65535) % 65536 + (B + 1) % 65536) ∧ bits .and .i64 (wR5 r A B 6) 128 = bits .and .i64 (r 6) 128 ∧ bits .and .i64 (wR5 r A B 6) 64 = 0 ∧ (bits .and .i64 (wR5 r A B 6) 32 != 0) = decide (4095 < (A + 65535) % 65536 % 4096 + (B + 1) % 65536 % 4096) := by
  have e1 := wE_is B b1 b2
  have e2 := wS_is A B a1 a2 b1 b2
  have e3 := wSp_is A B
  have r2 : wR5 r A B 2 = wE B / 256 := rfl
  have r3 : wR5 r A B 3 = wE B % 256 := rfl
  have r4 : wR5 r A B 4 = wS A B / 256 := rfl
  have r5 : wR5 r A B 5 = wS A B % 256 := rfl
  have r6 : wR5 r A B 6 = wFl r A B := rfl
  have m0 : wM A B 768 = wSp A B % 256 := rfl
  have m1 : wM A B 769 = wSp A B / 256 := rfl
  have rf : wFl r A B = flg (r 6 / 128 == 1) false (decide (4095 < (A + 65535) % 65536 % 4096 + (B + 1) % 65536 % 4096)) (decide (65535 < (A + 65535) % 65536 + (B + 1) % 65536)) := by
    unfold wFl awF
    rw [word_is, word_is, wE_is B b1 b2, wH_is A a1 a2]
  refine ⟨by rw [r2, r3]; omega, by rw [r4, r5]; omega, by rw [e3, e2], by rw [m0, m1]; omega, ?_, ?_, ?_, ?_⟩
  · rw [r6, rf, flgC]
  · rw [r6, rf, flgZ, and128i _ hr.1 hr.2]
  · rw [r6, rf, flgN]
  · rw [r6, rf, flgH]
theorem words_b (r : Nat → Int) (A B : Int) (a1 : 0 ≤ A) (a2 : A ≤ 65535) (b1 : 0 ≤ B) (b2 : B ≤ 65535) :
    (0 ≤ wR5 r A B 2 ∧ wR5 r A B 2 ≤ 255) ∧ (0 ≤ wR5 r A B 3 ∧ wR5 r A B 3 ≤ 255) ∧ (0 ≤ wR5 r A B 4 ∧ wR5 r A B 4 ≤ 255) ∧ (0 ≤ wR5 r A B 5 ∧ wR5 r A B 5 ≤ 255) ∧ (0 ≤ wM A B 768 ∧ wM A B 768 ≤ 255) ∧ (0 ≤ wM A B 769 ∧ wM A B 769 ≤ 255) := by
  have e1 := wE_is B b1 b2
  have e2 := wS_is A B a1 a2 b1 b2
  have e3 := wSp_is A B
  have r2 : wR5 r A B 2 = wE B / 256 := rfl
  have r3 : wR5 r A B 3 = wE B % 256 := rfl
  have r4 : wR5 r A B 4 = wS A B / 256 := rfl
  have r5 : wR5 r A B 5 = wS A B % 256 := rfl
  have m0 : wM A B 768 = wSp A B % 256 := rfl
  have m1 : wM A B 769 = wSp A B / 256 := rfl
  rw [r2, r3, r4, r5, m0, m1]
  omega
end Go.Proofs.YtfbfpcjnpegccaaGreatDoor
