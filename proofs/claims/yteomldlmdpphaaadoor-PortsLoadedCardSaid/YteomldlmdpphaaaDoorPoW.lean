/- The transfer lets clocks go by. -/
import Derived.Test.YteomldlmdpphaaaDoorPoV
namespace Go.Proofs.YteomldlmdpphaaaDoor
open Go.RowKit
set_option linter.unusedVariables false
variable {b : Nat} {p : Po}
def sentL (zs : List Int) (x : Int) : List Int := if zs.length = 256 then zs.drop 1 ++ [x] else zs ++ [x]
theorem sentL_len (zs : List Int) (x : Int) (h : zs.length ≤ 256) : (sentL zs x).length ≤ 256 := by
  unfold sentL
  split
  · simp; omega
  · simp; omega
theorem li4 {x : Int} (h : x = 0 ∨ x = 1 ∨ x = 128 ∨ x = 129) : bits .andNot .u8 x 128 = 0 ∨ bits .andNot .u8 x 128 = 1 := by
  rcases h with rfl | rfl | rfl | rfl
  · exact Or.inl (by decide)
  · exact Or.inr (by decide)
  · exact Or.inl (by decide)
  · exact Or.inr (by decide)
theorem or8 : ∀ x : Int, 0 ≤ x → x ≤ 255 → x ≤ 31 → 0 ≤ bits .or .u8 x 8 ∧ bits .or .u8 x 8 ≤ 31 := byteAll (by decide +kernel)
theorem Po.Ok.sent (o : p.Ok) : p.sent.Ok :=
  { o with se := (show (0 : Int) ≤ 0 ∧ (0 : Int) ≤ 255 by decide), sh := (show (0 : Int) ≤ 255 ∧ (255 : Int) ≤ 255 by decide), li := (by rcases li4 o.li with h | h; exact Or.inl h; exact Or.inr (Or.inl h)), rq := or8 p.rq o.rq.1 (by have := o.rq.2; omega) o.rq.2 }
theorem send_any (o : p.Ok) (base : Nat) (hb : b < base) (v : Value) (zs : List Int) (hn : zs.length ≤ 256) (W : World) (h : PoAt W b p v) (hS : SeAt W base v zs) (hbase : base ≤ W.heap.size) :
    Calls Tryd.prog 39 #[.pointer (some ⟨b, 0, none⟩)] W fun e w' => e = .returned (.tuple #[]) ∧ ∃ v', PoAt w' b p.sent v' ∧ SeAt w' base v' (sentL zs p.se) ∧ FrS b v.ownBlock W w' ∧ Moved W v.ownBlock v'.ownBlock := by
  unfold sentL
  by_cases e : zs.length = 256
  · rw [if_pos e]; exact send_many o base hb v zs e W h hS hbase
  · rw [if_neg e]; exact send_few o base hb v zs (by omega) W h hS hbase
theorem step4_any (o : p.Ok) (base : Nat) (hb : b < base) (v : Value) (zs : List Int) (hn : zs.length ≤ 256) (cp : Nat) (W : World) (h : PoAt W b p v) (hS : SeAt W base v zs) (hbase : base ≤ W.heap.size) (hp : W.cell? ⟨cp, 0, none⟩ = some (.pointer (some ⟨b, 0, none⟩))) :
    Calls Tryd.prog 38 #[.pointer (some ⟨cp, 0, none⟩)] W fun e w' => e = .returned (.tuple #[]) ∧ ∃ v', PoAt w' b p.sent v' ∧ SeAt w' base v' (sentL zs p.se) ∧ FrS b v.ownBlock W w' ∧ Moved W v.ownBlock v'.ownBlock := by
  have HA : Hid _ := send_any o base hb v zs hn W h hS hbase
  clear h
  go_enter Tryd.func38, Tryd.ntmps38
  go_wp2_with fail
  refine Calls.mono HA.out ?_
  rintro e w2 ⟨rfl, h2⟩
  have H2 : Hid _ := h2
  clear h2
  go_wp2_with fail
  go_end0
  exact ⟨rfl, H2.out⟩
/-- what was sent, behind these clocks -/
def Po.trZ (p : Po) (c : Int) (zs : List Int) : List Int := if p.tr = 0 then zs else if p.tr - c = 0 then sentL zs p.se else zs
theorem Po.trZ_len (p : Po) (c : Int) (zs : List Int) (h : zs.length ≤ 256) : (p.trZ c zs).length ≤ 256 := by
  unfold Po.trZ
  split
  · exact h
  · split
    · exact sentL_len zs _ h
    · exact h
def Po.passTr (p : Po) (c : Int) : Po := if p.tr = 0 then p else if p.tr - c = 0 then ({ p with tr := 0 } : Po).sent else { p with tr := p.tr - c }
set_option maxRecDepth 100000 in
theorem passTr_any (o : p.Ok) (c : Int) (c0 : 0 ≤ c) (c1 : c ≤ 1000000) (s cp base : Nat) (hb : b < base) (np : cp ≠ b) (v : Value) (zs : List Int) (hn : zs.length ≤ 256) (W : World) (h : PoAt W b p v) (hS : SeAt W base v zs) (hbase : base ≤ W.heap.size)
    (hs : W.cell? ⟨s, 0, none⟩ = some (.pointer (some ⟨b, 10, none⟩))) (hs1 : W.cell? ⟨s + 1, 0, none⟩ = some (.func (.func 38) #[] #[.pointer (some ⟨cp, 0, none⟩)])) (ns : s ≠ b) (ns1 : s + 1 ≠ b) (hp : W.cell? ⟨cp, 0, none⟩ = some (.pointer (some ⟨b, 0, none⟩))) :
    Calls Tryd.prog 68 #[.int .i64 c, .pointer (some ⟨s, 0, none⟩), .pointer (some ⟨s + 1, 0, none⟩)] W fun e w' => e = .returned (.tuple #[]) ∧ ∃ v', PoAt w' b (p.passTr c) v' ∧ SeAt w' base v' (p.trZ c zs) ∧ FrS b v.ownBlock W w' ∧ Moved W v.ownBlock v'.ownBlock := by
  have o0 : ({ p with tr := 0 } : Po).Ok := { o with tr := (show (0 : Int) ≤ 0 ∧ (0 : Int) ≤ 4096 by decide) }
  have HR : Hid (∀ W, PoAt W b { p with tr := 0 } v → SeAt W base v zs → base ≤ W.heap.size → W.cell? ⟨cp, 0, none⟩ = some (.pointer (some ⟨b, 0, none⟩)) → Calls Tryd.prog 38 #[.pointer (some ⟨cp, 0, none⟩)] W fun e w' => e = .returned (.tuple #[]) ∧ ∃ v', PoAt w' b ({ p with tr := 0 } : Po).sent v' ∧ SeAt w' base v' (sentL zs p.se) ∧ FrS b v.ownBlock W w' ∧ Moved W v.ownBlock v'.ownBlock) := fun W h hS hbase hp => step4_any o0 base hb v zs hn cp W h hS hbase hp
  have f10 := h.fz 10
  obtain ⟨k0, k1, k2, k3, k4, k5, k6, k7, k8, k9, k10, k11, k12⟩ := h.all
  have a0 := o.tr.1
  have a1 := o.tr.2
  have H : Hid (PoAt W b p v ∧ SeAt W base v zs) := ⟨h, hS⟩
  have HP : Hid _ := hp
  have HN : Hid _ := hn
  have lp : cp < W.heap.size := World.block_lt_of_cell? _ _ hp
  unfold Po.passTr Po.trZ
  clear h hp hS hn
  by_cases e0 : p.tr = 0
  · have eb : (p.tr == 0) = true := by rw [e0]; rfl
    rw [if_pos e0, if_pos e0]
    clear e0
    go_enter Tryd.func68, Tryd.ntmps68
    go_wp2
    exact bodyPost_ret (v := .tuple #[]) (results_none rfl _ _ _) rfl ⟨rfl, v, H.out.1, H.out.2, FrS.ofFr (Fr.refl _ _), Moved.refl _ _⟩
  · rw [if_neg e0, if_neg e0]
    have eb : (p.tr == 0) = false := by simp; exact e0
    clear e0
    have w0 : IntKind.i64.wrap (p.tr - c) = p.tr - c := by simp [IntKind.wrap, IntKind.bits, IntKind.signed]; omega
    by_cases e1 : p.tr - c = 0
    · rw [if_pos e1, if_pos e1]
      have HZ : Hid (p.tr - c = 0) := e1
      have eb1 : (p.tr - c == 0) = true := by rw [e1]; rfl
      clear e1
      go_enter Tryd.func68, Tryd.ntmps68
      go_wp2_with fail
      generalize hw1 : World.setCell _ _ _ = w1
      have F1 : Fr b W w1 := by rw [← hw1]; exact (Fr.refl b W).setCell
      have P1 : PoAt w1 b { p with tr := 0 } v := by rw [← hw1]; exact PoAt.set (p := p) H.out.1 10 _ (by rw [HZ.out]; rfl)
      refine (HR.out _ P1 (H.out.2.fr F1 hb) (Nat.le_trans hbase F1.size) ((F1.cell lp np).trans HP.out)).mono ?_
      rintro e w2 ⟨rfl, v', h2, h3, h4, h5⟩
      have H2 : Hid _ := And.intro h2 (And.intro h3 (And.intro ((FrS.ofFr F1).trans (Moved.refl _ _) h4) (Moved.trans (Moved.refl W _) F1.size h5)))
      clear h2 h3 h4 h5 P1 F1 hw1
      go_wp2_with fail
      go_end0
      exact ⟨rfl, v', H2.out.1, H2.out.2.1, H2.out.2.2.1, H2.out.2.2.2⟩
    · rw [if_neg e1, if_neg e1]
      have eb1 : (p.tr - c == 0) = false := by simp; omega
      clear e1
      go_enter Tryd.func68, Tryd.ntmps68
      go_wp2_with fail
      go_end0
      exact ⟨rfl, v, PoAt.set (p := p) H.out.1 10 _ rfl, H.out.2.fr ((Fr.refl b W).setCell) hb, FrS.ofFr ((Fr.refl b W).setCell), Moved.refl _ _⟩
theorem Po.Ok.passTr (o : p.Ok) (c : Int) (c0 : 0 ≤ c) (c1 : p.tr = 0 ∨ c ≤ p.tr) : (p.passTr c).Ok := by
  have a0 := o.tr.1
  have a1 := o.tr.2
  unfold Po.passTr
  split
  · exact o
  · split
    · exact Po.Ok.sent { o with tr := (show (0 : Int) ≤ 0 ∧ (0 : Int) ≤ 4096 by decide) }
    · exact { o with tr := (show 0 ≤ p.tr - c ∧ p.tr - c ≤ 4096 by omega) }
end Go.Proofs.YteomldlmdpphaaaDoor
