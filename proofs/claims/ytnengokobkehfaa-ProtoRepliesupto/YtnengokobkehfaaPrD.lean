/- Proto: what a reader reads, over the translation. -/
import Derived.Test.YtnengokobkehfaaPrC
namespace Go.Proofs.Ytnengokobkehfaa
open Go.RowKit
set_option linter.unusedVariables false
variable {w w' W : World}
theorem Fr.setNew {b g : Nat} {cs : Array Value} {x y : World} (h : Fr b x y) (hg : x.heap.size ≤ g) : Fr b x (y.setRow g cs) :=
  ⟨h.os, h.output, by simp [World.setRow]; exact h.size, fun j hj hb => (setRow_other _ _ _ _ (by omega)).trans (h.block j hj hb)⟩
/-- bytes as values -/
def u8s (l : List Int) : List Value := l.map (fun x => .int .u8 x)
theorem u8s_len (l : List Int) : (u8s l).length = l.length := by simp [u8s]
theorem u8s_at {l : List Int} {k : Nat} {x : Int} (h : l[k]? = some x) : (u8s l)[k]? = some (.int .u8 x) := by simp [u8s, h]
theorem u8s_one (l : List Int) : ∀ v ∈ u8s l, v.oneCell' = true := by
  intro v hv
  obtain ⟨x, _, rfl⟩ := List.mem_map.1 hv
  rfl
theorem u8s_append (a b : List Int) : u8s (a ++ b) = u8s a ++ u8s b := by simp [u8s]
/-- a list of bytes as it lies in memory, in a block that is not below lo -/
structure Bs (lo : Nat) (w : World) (v : Value) (l : List Int) : Prop where
  ex : ∃ a g o c, v = .slice a l.length c ∧ l.length ≤ c ∧ c ≤ maxLen ∧ (0 < l.length → a = some ⟨g, o, none⟩ ∧ lo ≤ g) ∧ ∀ k x, l[k]? = some x → w.cell? ⟨g, o + k, none⟩ = some (.int .u8 x)
  u8 : L8 l
theorem Bs.keep {lo : Nat} {v : Value} {l : List Int} (h : Bs lo w v l) (u : ∀ b, lo ≤ b → b < w.heap.size → w'.heap[b]? = w.heap[b]?) : Bs lo w' v l := by
  obtain ⟨a, g, o, c, h1, h2, h3, h4, h5⟩ := h.ex
  refine ⟨⟨a, g, o, c, h1, h2, h3, h4, fun k x hk => ?_⟩, h.u8⟩
  have hlt := (List.getElem?_eq_some_iff.1 hk).1
  have hc := h5 k x hk
  have := u g (h4 (by omega)).2 (World.block_lt_of_cell? _ _ hc)
  rw [← hc]
  unfold World.cell?
  rw [show (w'.heap[(⟨g, o + k, none⟩ : Addr).block]?) = w.heap[(⟨g, o + k, none⟩ : Addr).block]? from this]
theorem Bs.up {lo : Nat} {v : Value} {l : List Int} (h : Bs lo w v l) (u : Up w w') : Bs lo w' v l := h.keep fun b _ hb => u.block b hb
theorem Bs.mono {lo lo' : Nat} {v : Value} {l : List Int} (h : Bs lo w v l) (hl : lo' ≤ lo) : Bs lo' w v l := by
  obtain ⟨a, g, o, c, h1, h2, h3, h4, h5⟩ := h.ex
  exact ⟨⟨a, g, o, c, h1, h2, h3, fun hp => ⟨(h4 hp).1, Nat.le_trans hl (h4 hp).2⟩, h5⟩, h.u8⟩
theorem Bs.nil (lo : Nat) (w : World) : Bs lo w (.slice none 0 0) [] := ⟨⟨none, 0, 0, 0, rfl, Nat.le_refl _, Nat.zero_le _, fun h => absurd h (by simp), fun k x h => by simp at h⟩, L8.nil⟩
theorem Bs.of_own {lo base : Nat} {v : Value} {l : List Int} {ty : TypeId} (h : w.ownsRow base ty 1 v l.length (u8s l)) (hb : lo ≤ base) (h8 : L8 l) : Bs lo w v l := by
  rcases h.2 with ⟨hv, hn⟩ | ⟨g, cap, cur, hv, hbg, hg, hc, hm, hs, ht⟩
  · have : l = [] := List.length_eq_zero_iff.1 hn
    subst this
    rw [hv]
    exact Bs.nil lo w
  · refine ⟨⟨some ⟨g, 0, none⟩, g, 0, cap, hv, hc, hm, fun _ => ⟨rfl, by omega⟩, fun k x hk => ?_⟩, h8⟩
    have hlt := (List.getElem?_eq_some_iff.1 hk).1
    rw [Nat.zero_add]
    refine heap_cell hg ?_
    rw [own_at ht k (by omega)]
    exact u8s_at hk
theorem up_grown {v : Value} (h : w.grownBy w' v.ownBlock) (hv : v.ownBlock = none) : Up w w' :=
  ⟨h.os, h.output, h.size, fun b hb => h.block b hb (by rw [hv]; intro e; cases e)⟩
set_option maxRecDepth 100000 in
set_option maxHeartbeats 400000 in
theorem copyOf_any (ad : Addr) (m c : Nat) (l : List Int) (hl : l.length = m) (h8 : L8 l) (hm : m ≤ 1099511627776) (w : World) (h : ∀ k x, l[k]? = some x → w.cell? (ad.add k) = some (.int .u8 x)) :
    Calls Try.prog 21 #[.slice (some ad) m c] w fun e w' => ∃ v, e = .returned v ∧ w'.ownsRow w.heap.size 5 1 v l.length (u8s l) ∧ Up w w' := by
  go_enter Try.func21, Try.ntmps21
  go_wp2_with (refine wpList_append_own_at2 w rfl _ _ 22 22 rfl w.heap.size 5 Try.t5 (.int .u8 0) 1 1 Try.underlying22 Try.underlying22 (by kernel_rfl) rfl rfl rfl rfl (by decide) (.slice none 0 0) 0 [] rfl (World.ownsRow_nil _ _ _ _) ad m c (u8s l) rfl (by rw [u8s_len, hl, Nat.mul_one]) (fun j u hj => ?_) (u8s_one l) (by unfold maxLen; omega) (by omega) (Nat.le_refl _) (fun v' w' ho hg hw => ?_))
  · have hjl : j < l.length := by have := (List.getElem?_eq_some_iff.1 hj).1; rwa [u8s_len] at this
    rw [u8s_at (List.getElem?_eq_getElem hjl)] at hj
    injection hj with hj
    rw [← hj]
    exact h j _ (List.getElem?_eq_getElem hjl)
  · go_wp2
    go_ret
    refine ⟨v', rfl, ?_, up_grown hg rfl⟩
    rw [hl]
    simpa using ho
set_option maxRecDepth 100000 in
set_option maxHeartbeats 400000 in
theorem number_ok {rb g O o e : Nat} {f : Nat → Int} (wd : Nat) (h4 : wd ≤ 4) (h1 : 1 ≤ wd) (hm : o + wd ≤ e) (w : World) (h : Rs w rb g O o e f) :
    Calls Try.prog 31 #[.pointer (some ⟨rb, 0, none⟩), .int .i64 wd] w fun x w' => x = .returned (.agg #[.int .i64 (num f o wd), .slice none 0 0]) ∧ Rs w' rb g O (o + wd) e f ∧ Fr rb w w' := by
  have HH : Hid (Rs w rb g O o e f) := h
  obtain ⟨c, hc⟩ := h.rd
  have HL : Hid (rb < w.heap.size) := hc.lt
  have HC : Hid (Rdr w rb g (O + o) (e - o) c) := hc
  clear h hc
  go_enter Try.func31, Try.ntmps31
  go_wp2_with fail
  refine (take_ok (g := g) (o := O + o) (n := e - o) (c := c) wd (by omega) _ (by exact HC.out.up ((Up.refl w).alloc _))).mono ?_
  rintro e1 w1 ⟨p, rfl, hp, hR, hF⟩
  have ep : p = O + o := hp (by omega)
  subst ep
  have hs1 : w.heap.size < w1.heap.size := by have := hF.size; simp at this; omega
  have HB : Hid (w1.heap[w.heap.size]? = some (.cells #[.int .i64 0, .slice none 0 0] 59 (0, 0))) := (hF.block _ (by simp) (by have := HL.out; omega)).trans (heap_alloc_new w _)
  have HF : Hid (Fr rb w w1) := (Fr.ofUp ((Up.refl w).alloc _)).trans hF
  have HR : Hid (Rdr w1 rb g (O + (o + wd)) (e - (o + wd)) (c - wd)) := by
    have := hR
    rw [Nat.add_assoc, Nat.sub_sub] at this
    exact this
  have HD : Hid (Dt w1 g O e f) := HH.out.dt.fr HF.out HH.out.ne
  clear hp hR hF
  go_wp2_with fail
  refine (numberOf_any o wd c h4 hm w1 HD.out).mono ?_
  rintro e2 w2 ⟨rfl, hw2⟩
  have hw2 : w2 = w1 := hw2
  subst hw2
  go_wp2_with fail
  refine (numberValue_any _ _).mono ?_
  rintro e3 w3 ⟨rfl, hU⟩
  have HB3 : Hid (w3.heap[w.heap.size]? = some (.cells #[.int .i64 0, .slice none 0 0] 59 (0, 0))) := (hU.block _ (by omega)).trans HB.out
  have HU : Hid (Up w2 w3) := hU
  clear hU
  go_wp2_with (refine wpList_store_rowTo rfl 59 _ _ rfl rfl w.heap.size #[.int .i64 (num f o wd), .slice none 0 0] rfl rfl 59 _ HB3.out (by kernel_rfl) rfl (by simp [Value.oneCell']) ?_)
  have hFF : Fr rb w (w3.setRow w.heap.size #[.int .i64 (num f o wd), .slice none 0 0]) := (HF.out.trans (Fr.ofUp HU.out)).setNew (Nat.le_refl _)
  exact bodyPost_ret (results_row rfl _ _ w.heap.size 59 #[.int .i64 (num f o wd), .slice none 0 0] (0, 0) _ rfl (setRow_heap _ _ _ _ _ _ HB3.out) Try.underlying59 (by kernel_rfl) (by kernel_rfl)) rfl ⟨rfl, ⟨⟨_, (HR.out.up HU.out).of_block (setRow_other _ _ _ _ (by have := HL.out; omega))⟩, HH.out.dt.fr hFF HH.out.ne, hm, HH.out.ne⟩, hFF⟩
end Go.Proofs.Ytnengokobkehfaa
