/- Arena: house. -/
import Derived.Test.YteijdcidemajfaaAsD
namespace Go.Proofs.Yteijdcidemajfaa
open Go.RowKit
set_option linter.unusedVariables false
variable {R : Nat → Option Role} {K K' : Nat → Prop} {w w' W : World} {pb many o k : Nat} {A : Ad} {P : Pl} {q : Int} {V V' : Value}
def heldCells (k : Nat) : List Value := (List.range k).flatMap fun (i : Nat) => [.int .i64 (i : Int), .slice none 0 0, .slice none 0 0]
theorem heldCells_succ (k : Nat) : heldCells (k + 1) = heldCells k ++ [.int .i64 (k : Int), .slice none 0 0, .slice none 0 0] := by
  unfold heldCells
  rw [List.range_succ, List.flatMap_append]
  simp
theorem PlAt.grow {ob : Option Nat} (h : PlAt K w pb P) (g : w.grownBy w' ob) (hc : ∀ c, ob = some c → K c) (hk : ∀ b, K' b → K b ∨ (w.heap.size ≤ b ∧ b < w'.heap.size)) : PlAt K' w' pb P := by
  obtain ⟨R, A, h⟩ := h
  refine ⟨R, A, h.same g.size (fun b r hr => g.block b (h.lt b r hr) (fun e => ?_)) (fun b hb => ?_) (fun b hb => ?_)⟩
  · have := h.kn b (hc b e.symm)
    rw [this] at hr
    cases hr
  · rcases hk b hb with e | e
    · exact h.kn b e
    · cases hr : R b with
      | none => rfl
      | some r =>
        have := h.lt b r hr
        omega
  · rcases hk b hb with e | e
    · exact Nat.lt_of_lt_of_le (h.kb b e) g.size
    · exact e.2
structure Hs (W : World) (K : Nat → Prop) (pb many : Nat) (q : Int) (V : Value) (o k : Nat) (w : World) : Prop where
  at' : ∃ P, Pb W K pb P w ∧ P.ars = List.replicate o (some ⟨q, []⟩) ++ List.replicate (5 - o) none ∧ P.cls = mkCls 0 [(4, many), (16, many)]
  own : w.ownsRow W.heap.size 56 3 V k (heldCells k)
  kv : ∀ g, V.ownBlock = some g → K g
theorem Hs.up (h : Hs W K pb many q V o k w) : Up W w := by
  obtain ⟨P, h1, _⟩ := h.at'
  exact h1.up
theorem Hs.more (h : Hs W K pb many q V o k w) (u : Up w w') : Hs W K pb many q V o k w' := by
  obtain ⟨P, h1, h2⟩ := h.at'
  exact ⟨⟨P, h1.more u, h2⟩, ownsRow_up h.own u, h.kv⟩
theorem Hs.open (h : Hs W K pb many q V o k w) (ho : o < 4) (hq : I64 q) (hq0 : 0 ≤ q) : Calls Try.prog 14 #[.pointer (some ⟨pb, 0, none⟩), .int .i64 q] w fun e w' => e = .returned (.tuple #[.int .i64 (o : Int), .int .i64 0]) ∧ Hs W K pb many q V (o + 1) k w' := by
  obtain ⟨P, h1, h2, h3⟩ := h.at'
  have hx : P.next = o := by
    unfold Pl.next
    rw [h2]
    have : o = 0 ∨ o = 1 ∨ o = 2 ∨ o = 3 := by omega
    rcases this with rfl | rfl | rfl | rfl <;> rfl
  have hl : P.next < P.ars.length := by
    rw [hx, h2, List.length_append, List.length_replicate, List.length_replicate]
    omega
  have := h1.open hq hq0 hl
  rw [hx] at this
  refine this.mono fun e w' ⟨g1, g2, g3⟩ => ⟨g1, ⟨_, g2, ?_, h3⟩, ownsRow_block h.own (fun g hg => g3.block g (h.own.lt g hg).2 (h.kv g hg)), h.kv⟩
  show P.ars.set P.next _ = _
  rw [hx, h2]
  have : o = 0 ∨ o = 1 ∨ o = 2 ∨ o = 3 := by omega
  rcases this with rfl | rfl | rfl | rfl <;> rfl
theorem Hs.grown (h : Hs W K pb many q V o k w) (g : w.grownBy w' V.ownBlock) (ow : w'.ownsRow W.heap.size 56 3 V' (k + 1) (heldCells k ++ [.int .i64 (k : Int), .slice none 0 0, .slice none 0 0])) (hv : V'.ownBlock = V.ownBlock ∨ V'.ownBlock = some w.heap.size) : ∃ K, Hs W K pb many q V' o (k + 1) w' := by
  obtain ⟨P, h1, h2, h3⟩ := h.at'
  have hge : ∀ b, V.ownBlock = some b → W.heap.size ≤ b := fun b e => (h.own.lt b e).1
  refine ⟨fun b => K b ∨ (w.heap.size ≤ b ∧ b < w'.heap.size), ⟨P, ⟨h1.at'.grow g h.kv (fun b hb => hb), h1.ok, ⟨g.os.trans h1.up.os, g.output.trans h1.up.output, Nat.le_trans h1.up.size g.size, fun b hb => (g.block b (Nat.lt_of_lt_of_le hb h1.up.size) (fun e => ?_)).trans (h1.up.block b hb)⟩, fun b hb => Or.inl (h1.ko b hb)⟩, h2, h3⟩, ?_, fun b hb => ?_⟩
  · have := hge b e.symm
    omega
  · rw [heldCells_succ]
    exact ow
  · rcases hv with e | e
    · exact Or.inl (h.kv b (e ▸ hb))
    · have hlt := (ow.lt b hb).2
      rw [e] at hb
      injection hb with hb
      exact Or.inr ⟨by omega, hlt⟩
theorem Hs.free (h : Hs W K pb many q V o k w) : Calls Try.prog 25 #[.pointer (some ⟨pb, 0, none⟩), .int .i64 0] w fun e w' => ∃ va vc, e = .returned (.slice va many vc) ∧ Hs W K pb many q V o k w' := by
  obtain ⟨P, h1, h2, h3⟩ := h.at'
  obtain ⟨R, A, hp⟩ := h1.at'
  have hx : P.cls[0]? = some ⟨4, 0, many, List.range' 0 many⟩ := by rw [h3]; rfl
  refine (free_ok (c := 0) hp h1.ok hx).mono fun e w' ⟨v, e1, e2, e3⟩ => ?_
  have hl : (List.range' 0 many).length = many := List.length_range'
  rcases own_cases e2 with ⟨hv, hn, _⟩ | ⟨g, cap, hv, _⟩
  · have hn : (List.range' 0 many).length = 0 := hn
    exact ⟨none, 0, by rw [e1, hv]; rw [hl] at hn; rw [hn], h.more e3⟩
  · have hv : v = .slice (some ⟨g, 0, none⟩) (List.range' 0 many).length cap := hv
    exact ⟨some ⟨g, 0, none⟩, cap, by rw [e1, hv, hl], h.more e3⟩
set_option maxRecDepth 100000 in
set_option maxHeartbeats 1000000 in
theorem house_ok (hm : many ≤ 512) (hq : I64 q) (hq0 : 0 ≤ q) :
    Calls Try.prog 22 #[.int .i64 (many : Int), .int .i64 q] W fun e w' => ∃ pb V K, e = .returned (.tuple #[.pointer (some ⟨pb, 0, none⟩), V, .bool true]) ∧ Hs W K pb many q V 4 4 w' := by
  have hie : Try.prog.info? 56 = some Try.t56 := by kernel_rfl
  have HC : Hid (Cfg [(4, many), (16, many)] 5) := by
    refine ⟨by show 1 ≤ 2; decide, by show 2 ≤ 8; decide, by decide, by decide, fun k x hx => ?_, by show 4 * many + (16 * many + 0) ≤ _; omega⟩
    match k, hx with
    | 0, hx => simp at hx; subst hx; exact ⟨by show 0 < 4; decide, by show 4 ≤ _; decide, hm⟩
    | 1, hx => simp at hx; subst hx; exact ⟨by show 4 < 16; decide, by show 16 ≤ _; decide, hm⟩
    | k + 2, hx => simp at hx
  have HQ : Hid (I64 q ∧ 0 ≤ q) := ⟨hq, hq0⟩
  clear hq hq0
  go_enter Try.func22, Try.ntmps22
  go_wp2_with fail
  have ua : Up W (W.alloc (Obj.cells #[.int .i64 4, .int .i64 (many : Int), .int .i64 16, .int .i64 (many : Int)] 29)) := (Up.refl W).alloc _
  have ka : (W.alloc (Obj.cells #[.int .i64 4, .int .i64 (many : Int), .int .i64 16, .int .i64 (many : Int)] 29)).heap[W.heap.size]? = some (.cells #[.int .i64 4, .int .i64 (many : Int), .int .i64 16, .int .i64 (many : Int)] 29 (0, 0)) := heap_alloc_new W _
  have HNew : Hid _ := new_ok (K := fun b => b < (W.alloc (Obj.cells #[.int .i64 4, .int .i64 (many : Int), .int .i64 16, .int .i64 (many : Int)] 29)).heap.size) (g := W.heap.size) (o := 0) (cap := 2) HC.out (Nat.le_refl _) (by decide) (fun w u k x hx => by
    have hb := (u.block _ (heap_at ka)).trans ka
    match k, hx with
    | 0, hx =>
      simp at hx
      subst hx
      exact range2 (heap_cell hb rfl) (heap_cell hb rfl)
    | 1, hx =>
      simp at hx
      subst hx
      exact range2 (heap_cell hb rfl) (heap_cell hb rfl)
    | k + 2, hx => simp at hx) (fun b hb => hb)
  have HUa : Hid (Up W (W.alloc (Obj.cells #[.int .i64 4, .int .i64 (many : Int), .int .i64 16, .int .i64 (many : Int)] 29))) := ua
  clear ua ka
  generalize World.alloc W _ = Wa at HNew HUa ⊢
  generalize W.heap.size = cb at HNew ⊢
  refine Calls.mono HNew.out ?_
  rintro e w2 ⟨pb, rfl, hpb, hP, uu2⟩
  have H2 : Hid (∃ K, Hs W K pb many q (.slice none 0 0) 0 0 w2) := ⟨fun b => b < Wa.heap.size, ⟨_, ⟨hP, Ok.new HC.out, HUa.out.trans uu2, fun b hb => Nat.lt_of_lt_of_le hb HUa.out.size⟩, rfl, rfl⟩, ⟨rfl, Or.inl ⟨rfl, rfl⟩⟩, fun g hg => by cases hg⟩
  clear hP uu2 HNew hpb HC HUa
  go_wp2_with fail
  go_loopw [9, 10, 11, 12] (fun V I _ _ wr => ∃ k : Nat, k ≤ 4 ∧ I = .int .i64 k ∧ Hid (∃ K, Hs W K pb many q V k k wr)) (fun _ I _ _ _ => 4 - (intOf I).toNat)
  case atStart => exact ⟨0, Nat.zero_le _, rfl, H2⟩
  case round =>
    clear H2
    obtain ⟨k, hk, rfl, M0⟩ := hrel
    obtain ⟨K, hs⟩ := M0.out
    have HS : Hid (Hs W K pb many q u9 k k wr) := hs
    clear M0 hs
    by_cases hlt : k < 4
    · have d1 : (k : Int) < 4 := by omega
      have HOp : Hid _ := HS.out.open hlt HQ.out.1 HQ.out.2
      clear HS
      go_wp2_with fail
      refine Calls.mono HOp.out ?_
      rintro e w3 ⟨rfl, h3⟩
      have HB3 : Hid (Hs W K pb many q u9 (k + 1) k (w3.alloc (Obj.cells #[.int .i64 (k : Int), .slice none 0 0, .slice none 0 0] 56)) ∧ ∀ j u, [Value.int .i64 (k : Int), .slice none 0 0, .slice none 0 0][j]? = some u → (w3.alloc (Obj.cells #[.int .i64 (k : Int), .slice none 0 0, .slice none 0 0] 56)).cell? ((⟨w3.heap.size, 0, none⟩ : Addr).add j) = some u) := ⟨h3.more ((Up.refl w3).alloc _), fun j u hj => by
        rw [Addr.add_lit, Nat.zero_add]
        exact heap_cell (heap_alloc_new w3 _) (by rw [← hj]; exact Array.getElem?_toList.symm)⟩
      clear h3 HOp
      go_wp2_with (at_builtin
                   refine wpList_append_own_at2 _ rfl _ _ 51 51 rfl W.heap.size 56 Try.t56 (.agg #[.int .i64 0, .slice none 0 0, .slice none 0 0]) 3 56 Try.underlying51 Try.underlying51 hie rfl rfl rfl rfl (by decide) u9 k _ rfl HB3.out.1.own ⟨w3.heap.size, 0, none⟩ 1 1 [.int .i64 (k : Int), .slice none 0 0, .slice none 0 0] rfl rfl HB3.out.2 (by simp [Value.oneCell']) (by unfold maxLen; omega) (by omega) HB3.out.1.up.size ?_
                   intro v' w4 hown hgrow hat
                   have H4 : Hid (∃ K, Hs W K pb many q v' (k + 1) (k + 1) w4) := HB3.out.1.grown hgrow hown hat
                   clear hown hgrow hat HB3)
      refine ⟨⟨k + 1, by omega, by first | rfl | (simp; done), H4⟩, ?_⟩
      simp [intOf]
      try omega
    · have d1 : ¬ (k : Int) < 4 := by omega
      obtain rfl : k = 4 := by omega
      have HF : Hid _ := HS.out.free
      clear HS
      go_wp2_with fail
      refine Calls.mono HF.out ?_
      rintro e w3 ⟨va, vc, rfl, h3⟩
      have H3 : Hid (Hs W K pb many q u9 4 4 w3) := h3
      clear h3 HF
      go_wp2_with fail
      refine bodyPost_ret (v := .tuple #[.pointer (some ⟨pb, 0, none⟩), u9, .bool true]) ?_ rfl ⟨pb, u9, K, rfl, H3.out⟩
      simp [results, Try.results22, go_sem]
end Go.Proofs.Yteijdcidemajfaa
