/- The frame of a scene with sprites. -/
import Derived.Test.YtnbhifbenfgeeaaPsG
namespace Go.Proofs.Ytnbhifbenfgeeaa
open Go.RowKit
set_option linter.unusedVariables false
variable {b : Nat} {p : Pic}
theorem SoP.tk {q : Pic} {V O R : Nat → Int} (P : Nat → Nat → Int) (h : SoP q V O R) : TkG q P 0 q := by
  have e4 : q.rg 4 = 0 := by rw [h.rg]; rfl
  exact ⟨⟨rfl, rfl, fun _ _ => rfl, by rw [e4]; rfl, by rw [h.clk]; rfl⟩, fun l x _ hl => absurd hl (by omega)⟩
set_option maxRecDepth 100000 in
set_option maxHeartbeats 1000000 in
theorem shotO_any {W : World} {rb ro rc : Nat} {R : Nat → Int} {oa : Option Addr} {ob oo ol oc : Nat} {F : Nat → Int} {PT : Nat → Nat → Int} {pa : Option Addr} {pb po pl pc : Nat} {P : Nat → Pce} (hR : ∀ i, I64 (R i)) (DR : ∀ w', Up W w' → ∀ i, i < 12 → w'.cell? ⟨rb, ro + i, none⟩ = some (.int .i64 (R i))) (DO : ∀ w', Up W w' → Byts w' oa ob oo ol oc F) (D : ∀ w', Up W w' → Pcs w' pa pb po pl pc P)
    (HB0 : ∀ b q, SoP q (putP P pl) (oamTo F ol 160) R → ∃ L, Lin b q L PT) :
    Calls Try.prog 26 #[.agg #[.slice (some ⟨rb, ro, none⟩) 12 rc, .slice oa ol oc, .slice pa pl pc]] W fun e w' => ∃ g, e = .returned (.tuple #[.slice (some ⟨g, 0, none⟩) 23040 23040, .bool true]) ∧ W.heap.size ≤ g ∧ NmAt w' g 23040 (fun i => PT (i / 160) (i % 160)) ∧ Up W w' := by
  obtain ⟨sb, hsb⟩ : ∃ sb, sb = W.heap.size := ⟨_, rfl⟩
  have hs2 : (W.alloc (Obj.cells #[.slice (some ⟨rb, ro, none⟩) 12 rc, .slice oa ol oc, .slice pa pl pc] 37)).heap[sb]? = some (.cells #[.slice (some ⟨rb, ro, none⟩) 12 rc, .slice oa ol oc, .slice pa pl pc] 37 (0, 0)) := by rw [hsb]; exact heap_alloc_new W _
  have hs3 : sb < (W.alloc (Obj.cells #[.slice (some ⟨rb, ro, none⟩) 12 rc, .slice oa ol oc, .slice pa pl pc] 37)).heap.size := by rw [hsb]; simp
  have HU : Hid (Up W (W.alloc (Obj.cells #[.slice (some ⟨rb, ro, none⟩) 12 rc, .slice oa ol oc, .slice pa pl pc] 37))) := (Up.refl W).alloc _
  have HSb : Hid (∀ w', Up (W.alloc (Obj.cells #[.slice (some ⟨rb, ro, none⟩) 12 rc, .slice oa ol oc, .slice pa pl pc] 37)) w' → w'.rangeAt sb 0 [.slice (some ⟨rb, ro, none⟩) 12 rc, .slice oa ol oc, .slice pa pl pc]) := fun w' u => by
    have hb := (u.block sb hs3).trans hs2
    exact range3 (by rw [cell_of_row _ _ _ _ _ _ hb]; rfl) (by rw [cell_of_row _ _ _ _ _ _ hb]; rfl) (by rw [cell_of_row _ _ _ _ _ _ hb]; rfl)
  have HD : Hid ((∀ i, I64 (R i)) ∧ (∀ w', Up W w' → ∀ i, i < 12 → w'.cell? ⟨rb, ro + i, none⟩ = some (.int .i64 (R i))) ∧ (∀ w', Up W w' → Byts w' oa ob oo ol oc F) ∧ (∀ w', Up W w' → Pcs w' pa pb po pl pc P)) := ⟨hR, DR, DO, D⟩
  have HB : Hid (∀ b q, SoP q (putP P pl) (oamTo F ol 160) R → ∃ L, Lin b q L PT) := HB0
  clear hR DR DO D HB0 hs2 hs3
  go_enter Try.func26, Try.ntmps26
  go_wp2_with fail
  rw [← hsb]
  clear hsb
  generalize World.alloc W _ = W1 at HU HSb ⊢
  have HN : Hid _ := newP_any W1
  generalize hb : W1.heap.size = b at HN
  have HQ : Hid (W1.heap.size ≤ b) := Nat.le_of_eq hb
  clear hb
  refine Calls.mono HN.out ?_
  rintro e w2 ⟨rfl, h2, u2⟩
  have H2 : Hid _ := And.intro h2 u2
  clear h2 u2 HN
  have HR2 : Hid _ := HSb.out _ H2.out.2
  have HSet : Hid _ := setO_any (rc := rc) H2.out.1 HD.out.1 (fun w' f => HD.out.2.1 w' (HU.out.trans (Fr.up H2.out.2 HQ.out f))) (fun w' f => HD.out.2.2.1 w' (HU.out.trans (Fr.up H2.out.2 HQ.out f))) (fun w' f => HD.out.2.2.2 w' (HU.out.trans (Fr.up H2.out.2 HQ.out f)))
  go_wp2_with (refine wpList_load_mid rfl 37 _ rfl sb 0 rfl [.slice (some ⟨rb, ro, none⟩) 12 rc, .slice oa ol oc, .slice pa pl pc] _ HR2.out Try.underlying37 rfl (by kernel_rfl) ?_)
  refine Calls.mono HSet.out ?_
  rintro e w3 ⟨rfl, ⟨q, h3, hq⟩, F3⟩
  have H3 : Hid (Tg W b q PT 0 w3) := ⟨⟨q, hq.tk PT, h3⟩, (Fr.ofUp (HU.out.trans H2.out.2)).trans F3⟩
  obtain ⟨L, hL⟩ := HB.out b q hq
  have HO : Hid _ := oneG_any w3 H3.out hL
  have HQ3 : Hid (W.heap.size ≤ b) := Nat.le_trans HU.out.size HQ.out
  clear hL h3 hq F3 HSet HR2 HD HB HSb HQ
  go_wp2_with fail
  refine Calls.mono HO.out ?_
  rintro e w4 ⟨⟨g, rfl, hg, h4⟩, F4⟩
  have H4 : Hid (W.heap.size ≤ g ∧ NmAt w4 g 23040 (fun i => PT (i / 160) (i % 160)) ∧ Up W w4) := ⟨hg, h4, Fr.up (Up.refl W) HQ3.out F4⟩
  clear h4 F4 hg HO H3
  go_wp2_with fail
  go_ret2
  exact ⟨g, by first | rfl | (simp; done), H4.out⟩
end Go.Proofs.Ytnbhifbenfgeeaa
