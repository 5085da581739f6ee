/- Pieces of code and a byte of memory beside it: what lies where; pieces as they lie, in general. -/
import Derived.Test.YtbfjihcnnefehaaGreatDoorLq
namespace Go.Proofs.YtbfjihcnnefehaaGreatDoor
open Go.RowKit
set_option linter.unusedVariables false
theorem mem1_code (bs : List Int) (hl : bs.length ≤ 1000) (k : Nat) (hk : k < bs.length) : mem1 512 bs (512 + k) = bs.getD k 0 := by
  have := lay_at (fun _ => 0) 512 bs bs.length (by omega) k hk
  rw [← this, ladr_in 512 k (by decide) (by decide)]
  show mem1 512 bs (512 + k) = mem1 512 bs _
  congr 1
  omega
theorem mem1_off (bs : List Int) (hl : bs.length ≤ 1000) (j : Nat) (hj : j < 512 ∨ 2000 < j) : mem1 512 bs j = 0 := by
  refine lay_off (fun _ => 0) 512 bs j bs.length (fun k hk => ?_)
  rw [ladr_in 512 k (by decide) (by decide)]
  omega
theorem mem2_code (bs : List Int) (hl : bs.length ≤ 1000) (a v : Int) (h0 : 2000 < a) (h1 : a ≤ 65535) (k : Nat) (hk : k < bs.length) : mem2 512 bs a [v] (512 + k) = bs.getD k 0 := by
  unfold mem2
  rw [lay_off _ _ _ _ _ (fun j hj => by
    have : j = 0 := by simp at hj; omega
    subst this
    rw [ladr_in a 0 (by omega) (by omega)]
    omega)]
  exact mem1_code bs hl k hk
theorem mem2_at (bs : List Int) (a v : Int) (h0 : 2000 < a) (h1 : a ≤ 65535) : mem2 512 bs a [v] a.toNat = v := by
  have := lay_at (mem1 512 bs) a [v] 1 (by decide) 0 (by decide)
  rw [ladr_in a 0 (by omega) (by omega)] at this
  rw [show ((a + ((0 : Nat) : Int)) % 65536).toNat = a.toNat by omega] at this
  exact this
theorem word_at (h l : Int) (h0 : 0 ≤ h) (h1 : h ≤ 255) (l0 : 0 ≤ l) (l1 : l ≤ 255) : wordP h l = 256 * h + l := by unfold wordP; omega
theorem adr512 (k : Nat) (hk : k < 60000) : adr 512 k = 512 + 1 + k := by unfold adr; omega
/-- one piece, its bytes wherever they lie -/
theorem pcsA (W : World) (gp gb cp : Nat) (a : Int) (bs : List Int) (ha : I64 a) (hb : ∀ x ∈ bs, 0 ≤ x ∧ x ≤ 255) (hl : bs.length ≤ 1000) (hgp : gp < W.heap.size) (hgb : gb < W.heap.size) (pa : Option Addr) (hpa : 0 < bs.length → pa = some ⟨gb, 0, none⟩)
    (c0 : W.cell? ⟨gp, 0, none⟩ = some (.int .i64 a)) (c1 : W.cell? ⟨gp, 1, none⟩ = some (.slice pa bs.length cp)) (hc : ∀ k (hk : k < bs.length), W.cell? ⟨gb, k, none⟩ = some (.int .u8 bs[k])) :
    Pcs W gp [⟨a, bs⟩] := by
  refine ⟨hgp, fun i h => ?_⟩
  have hi : i = 0 := by simp at h; omega
  subst hi
  exact ⟨ha, gb, hgb, c0, ⟨pa, cp, c1, hpa⟩, hl, fun k hk => ⟨hc k hk, hb _ (List.getElem_mem hk)⟩⟩
/-- two, each wherever it lies -/
theorem pcsAB (W : World) (gp gb gc : Nat) (a a2 : Int) (bs bs2 : List Int) (ha : I64 a) (ha2 : I64 a2) (hb : ∀ x ∈ bs, 0 ≤ x ∧ x ≤ 255) (hb2 : ∀ x ∈ bs2, 0 ≤ x ∧ x ≤ 255) (hl : bs.length ≤ 1000) (hl2 : bs2.length ≤ 1000) (hgp : gp < W.heap.size) (hgb : gb < W.heap.size) (hgc : gc < W.heap.size)
    (c0 : W.cell? ⟨gp, 0, none⟩ = some (.int .i64 a)) (c1 : W.cell? ⟨gp, 1, none⟩ = some (.slice (some ⟨gb, 0, none⟩) bs.length bs.length)) (c2 : W.cell? ⟨gp, 2, none⟩ = some (.int .i64 a2)) (c3 : W.cell? ⟨gp, 3, none⟩ = some (.slice (some ⟨gc, 0, none⟩) bs2.length bs2.length))
    (hc : ∀ k (hk : k < bs.length), W.cell? ⟨gb, k, none⟩ = some (.int .u8 bs[k])) (hc2 : ∀ k (hk : k < bs2.length), W.cell? ⟨gc, k, none⟩ = some (.int .u8 bs2[k])) :
    Pcs W gp [⟨a, bs⟩, ⟨a2, bs2⟩] := by
  refine ⟨hgp, fun i h => ?_⟩
  have hi : i = 0 ∨ i = 1 := by simp at h; omega
  rcases hi with rfl | rfl
  · exact ⟨ha, gb, hgb, c0, ⟨_, _, c1, fun _ => rfl⟩, hl, fun k hk => ⟨hc k hk, hb _ (List.getElem_mem hk)⟩⟩
  · exact ⟨ha2, gc, hgc, c2, ⟨_, _, c3, fun _ => rfl⟩, hl2, fun k hk => ⟨hc2 k hk, hb2 _ (List.getElem_mem hk)⟩⟩
end Go.Proofs.YtbfjihcnnefehaaGreatDoor
