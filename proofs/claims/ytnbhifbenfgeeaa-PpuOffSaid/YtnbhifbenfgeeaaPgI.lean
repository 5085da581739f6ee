/- Scenes, whatever they are: set, and shown. -/
import Derived.Test.YtnbhifbenfgeeaaPgH
import Derived.Laws.BytesArg
namespace Go.Proofs.Ytnbhifbenfgeeaa
open Go.RowKit
set_option linter.unusedVariables false
variable {b : Nat} {p : Pic}
/-- a scene as it lies -/
structure Sce where
  ra : Option Addr
  rb : Nat
  ro : Nat
  rl : Nat
  rc : Nat
  f : Nat → Int
  oa : Option Addr
  ob : Nat
  oo : Nat
  ol : Nat
  oc : Nat
  F : Nat → Int
  pa : Option Addr
  pb : Nat
  po : Nat
  pl : Nat
  pc : Nat
  P : Nat → Pce
structure ScAt (W : World) (s : Sce) : Prop where
  ints : Ints W s.ra s.rb s.ro s.rl s.rc s.f
  byts : Byts W s.oa s.ob s.oo s.ol s.oc s.F
  pcs : Pcs W s.pa s.pb s.po s.pl s.pc s.P
theorem Byts.upT {W W' : World} {aa : Option Addr} {ab ao len cap : Nat} {f : Nat → Int} (h : Byts W aa ab ao len cap f) (u : Up W W') : Byts W' aa ab ao len cap f :=
  ⟨h.lc, h.cm, h.ad, h.u8, fun k hk => (u.cell (World.block_lt_of_cell? _ _ (h.cell k hk))).trans (h.cell k hk)⟩
theorem ScAt.up {W W' : World} {s : Sce} (h : ScAt W s) (u : Up W W') : ScAt W' s :=
  ⟨⟨h.ints.lc, h.ints.cm, h.ints.ad, h.ints.i64, fun k hk => (u.cell (World.block_lt_of_cell? _ _ (h.ints.cell k hk))).trans (h.ints.cell k hk)⟩,
   h.byts.upT u,
   ⟨h.pcs.lc, h.pcs.cm, h.pcs.ad, h.pcs.i64, fun k hk => (u.cell (World.block_lt_of_cell? _ _ (h.pcs.c0 k hk))).trans (h.pcs.c0 k hk), fun k hk => (u.cell (World.block_lt_of_cell? _ _ (h.pcs.c1 k hk))).trans (h.pcs.c1 k hk), fun k hk => (h.pcs.by' k hk).upT u⟩⟩
def Sce.val (s : Sce) : Value := .agg #[.slice s.ra s.rl s.rc, .slice s.oa s.ol s.oc, .slice s.pa s.pl s.pc]
def Sce.V (s : Sce) : Nat → Int := putV (fun _ => 0) s.P s.pl
def Sce.O (s : Sce) : Nat → Int := oamB (fun _ => 0) s.F s.ol 160
def Sce.R (s : Sce) : Nat → Int := regsB (fun _ => 0) (rgOf s.rl s.f) 0
/-- the frame that a scene makes -/
def Sce.frame (s : Sce) (M : Nat) : Nat → Int := frameF M s.V s.O s.R
theorem Sce.R_on (s : Sce) : (bits .and .u8 (s.R 0) 128 != 0) = true := by
  unfold Sce.R regsB
  rw [if_pos (by decide)]
  unfold regN
  rw [if_pos rfl]
  exact (or128_b _ (pickI_lo _ 256 (by decide)) (by have := pickI_hi (rgOf s.rl s.f 0) 256 (by decide); omega)).2
theorem Sce.R_4 (s : Sce) : s.R 4 = 0 := by
  unfold Sce.R regsB
  rw [if_neg (by omega)]
/-- a picture in which nothing but a scene's memory and registers is -/
structure Bl (p : Pic) : Prop where
  vr : p.vr = fun _ => 0
  oa : ∀ j, 160 ≤ j → p.oa j = 0
  rg : ∀ j, j = 1 ∨ j = 5 ∨ j = 6 ∨ 12 ≤ j → p.rg j = 0
theorem Bl.V (h : Bl p) (s : Sce) : putV p.vr s.P s.pl = s.V := by rw [h.vr]; rfl
theorem Bl.O (h : Bl p) (s : Sce) : oamB p.oa s.F s.ol 160 = s.O := by
  funext j
  unfold Sce.O oamB
  by_cases e : j < 160
  · rw [if_pos e, if_pos e]
  · rw [if_neg e, if_neg e, h.oa j (by omega)]
theorem Bl.R (h : Bl p) (s : Sce) : regsB (offR p.rg) (rgOf s.rl s.f) 0 = s.R := by
  funext n
  unfold Sce.R regsB
  by_cases e : 0 ≤ n ∧ n < 12 ∧ n ≠ 1 ∧ n ≠ 4 ∧ n ≠ 5 ∧ n ≠ 6
  · rw [if_pos e, if_pos e]
  · rw [if_neg e, if_neg e]
    unfold offR
    by_cases e4 : n = 4
    · rw [if_pos e4]
    · rw [if_neg e4, if_neg (by omega), h.rg n (by omega)]
theorem newPic_bl : Bl newPic := by
  refine ⟨rfl, fun j _ => rfl, fun j hj => ?_⟩
  unfold newPic Pic.setR
  dsimp only
  rcases hj with rfl | rfl | rfl | hj
  · decide
  · decide
  · decide
  · rw [if_neg (by omega), if_neg (by omega), if_neg (by omega), if_neg (by omega), if_neg (by omega), if_neg (by omega), if_neg (by omega), if_neg (by omega), if_neg (by omega), if_neg (by omega), if_neg (by omega), if_neg (by omega)]
    rfl
/-- a picture as a scene has made it -/
structure Scn (s : Sce) (q : Pic) : Prop where
  sane : Sane q
  vr : q.vr = s.V
  oa : q.oa = s.O
  rg : q.rg = s.R
  clk : q.clk = 0
theorem Scn.on {s : Sce} {q : Pic} (h : Scn s q) : q.has 128 = true := by unfold Pic.has; rw [h.rg]; exact s.R_on
theorem Scn.r4 {s : Sce} {q : Pic} (h : Scn s q) : q.rg 4 = 0 := by rw [h.rg]; exact s.R_4
theorem setS_any {W : World} (s : Sce) (hs : Sane p) (hb : Bl p) (hp : PxAt W b p) (D : ∀ w', Fr b W w' → ScAt w' s) :
    Calls Try.prog 27 #[s.val, .pointer (some ⟨b, 0, none⟩)] W fun e w' => e = .returned (.tuple #[]) ∧ (∃ q, PxAt w' b q ∧ Scn s q) ∧ Fr b W w' := by
  refine (setG_any hs hp (fun w' f => (D w' f).ints) (fun w' f => (D w' f).byts) (fun w' f => (D w' f).pcs)).mono fun e w' ⟨h1, h2⟩ => ⟨h1, ?_, h2.fr⟩
  obtain ⟨q, a1, a2, a3, a4, a5, a6⟩ := h2.at'
  exact ⟨q, a1, a2, a3.trans (hb.V s), a4.trans (hb.O s), a5.trans (hb.R s), a6⟩
theorem oneS_any {M : Nat} (hM : M = 40) {N : Nat} (hN : N = 16416) {s : Sce} {q : Pic} (h : Scn s q) (W : World) (hp : PxAt W b q) : Calls Try.prog 28 #[.pointer (some ⟨b, 0, none⟩)] W fun e w' => (∃ g, e = .returned (.slice (some ⟨g, 0, none⟩) 23040 23040) ∧ W.heap.size ≤ g ∧ NmAt w' g 23040 (s.frame M)) ∧ PxAt w' b (tickN M q N) ∧ Fr b W w' := by
  have := oneA_any hM hN h.sane h.on h.r4 h.clk W hp
  rw [h.vr, h.oa, h.rg] at this
  exact this
set_option maxRecDepth 100000 in
set_option maxHeartbeats 1000000 in
theorem shotS_any {M : Nat} (hM : M = 40) {W : World} (s : Sce) (D0 : ScAt W s) : Calls Try.prog 26 #[s.val] W fun e w' => ∃ g, e = .returned (.tuple #[.slice (some ⟨g, 0, none⟩) 23040 23040, .bool true]) ∧ W.heap.size ≤ g ∧ NmAt w' g 23040 (s.frame M) ∧ Up W w' := by
  have HD : Hid (∀ w', Up W w' → ScAt w' s) := fun w' u => D0.up u
  clear D0
  unfold Sce.val
  obtain ⟨sb, hsb⟩ : ∃ sb, sb = W.heap.size := ⟨_, rfl⟩
  have hs2 : (W.alloc (Obj.cells #[.slice s.ra s.rl s.rc, .slice s.oa s.ol s.oc, .slice s.pa s.pl s.pc] 37)).heap[sb]? = some (.cells #[.slice s.ra s.rl s.rc, .slice s.oa s.ol s.oc, .slice s.pa s.pl s.pc] 37 (0, 0)) := by rw [hsb]; exact heap_alloc_new W _
  have hs3 : sb < (W.alloc (Obj.cells #[.slice s.ra s.rl s.rc, .slice s.oa s.ol s.oc, .slice s.pa s.pl s.pc] 37)).heap.size := by rw [hsb]; simp
  have HU : Hid (Up W (W.alloc (Obj.cells #[.slice s.ra s.rl s.rc, .slice s.oa s.ol s.oc, .slice s.pa s.pl s.pc] 37))) := (Up.refl W).alloc _
  have HSb : Hid (∀ w', Up (W.alloc (Obj.cells #[.slice s.ra s.rl s.rc, .slice s.oa s.ol s.oc, .slice s.pa s.pl s.pc] 37)) w' → w'.rangeAt sb 0 [.slice s.ra s.rl s.rc, .slice s.oa s.ol s.oc, .slice s.pa s.pl s.pc]) := fun w' u => by
    have hb := (u.block sb hs3).trans hs2
    exact range3 (by rw [cell_of_row _ _ _ _ _ _ hb]; rfl) (by rw [cell_of_row _ _ _ _ _ _ hb]; rfl) (by rw [cell_of_row _ _ _ _ _ _ hb]; rfl)
  have HM : Hid (M = 40) := hM
  clear hs2 hs3 hM
  go_enter Try.func26, Try.ntmps26
  go_wp2_with fail
  rw [← hsb]
  clear hsb
  generalize World.alloc W _ = W1 at HU HSb ⊢
  have HN : Hid _ := newP_any W1
  generalize hb : W1.heap.size = b at HN
  have HQ : Hid (W1.heap.size ≤ b) := Nat.le_of_eq hb
  clear hb
  refine Calls.mono HN.out ?_
  rintro e w2 ⟨rfl, h2, u2⟩
  have H2 : Hid _ := And.intro h2 u2
  clear h2 u2 HN
  have HR2 : Hid _ := HSb.out _ H2.out.2
  have HSet : Hid _ := setS_any s newPic_sane newPic_bl H2.out.1 (fun w' f => HD.out w' (HU.out.trans (Fr.up H2.out.2 HQ.out f)))
  unfold Sce.val at HSet
  go_wp2_with (refine wpList_load_mid rfl 37 _ rfl sb 0 rfl [.slice s.ra s.rl s.rc, .slice s.oa s.ol s.oc, .slice s.pa s.pl s.pc] _ HR2.out Try.underlying37 rfl (by kernel_rfl) ?_)
  refine Calls.mono HSet.out ?_
  rintro e w3 ⟨rfl, ⟨q, h3, hq⟩, F3⟩
  have HO : Hid _ := oneS_any HM.out (N := 16416) rfl hq w3 h3
  have HQ3 : Hid (W.heap.size ≤ b ∧ Fr b W w3) := ⟨Nat.le_trans HU.out.size HQ.out, (Fr.ofUp (HU.out.trans H2.out.2)).trans F3⟩
  clear h3 hq F3 HSet HR2 HD HSb HQ
  go_wp2_with fail
  refine Calls.mono HO.out ?_
  rintro e w4 ⟨⟨g, rfl, hg, h4⟩, _, F4⟩
  have H4 : Hid (W.heap.size ≤ g ∧ NmAt w4 g 23040 (s.frame M) ∧ Up W w4) := ⟨Nat.le_trans HQ3.out.2.size hg, h4, Fr.up (Up.refl W) HQ3.out.1 (HQ3.out.2.trans F4)⟩
  clear h4 F4 hg HO HQ3
  go_wp2_with fail
  go_ret2
  exact ⟨g, by first | rfl | (simp; done), H4.out⟩
/-- bytes as a string -/
def strN (n : Nat) (f : Nat → Int) : ByteArray := strOfNums ((List.range' 0 n).map f)
theorem NmAt.conv {w : World} {g n : Nat} {f : Nat → Int} (h : NmAt w g n f) (c : Nat) : (convert 23 9 (.slice (some ⟨g, 0, none⟩) n c)).run Try.prog w = .ok (.string (strN n f)) w := by
  refine run_convert_bytes_arg w 23 5 Try.underlying23 Try.underlying5 g 0 n c ((List.range' 0 n).map f) (by rw [List.length_map, List.length_range']) (fun i hi => ?_) 9 Try.underlying9
  rw [Nat.zero_add, h.cell i hi]
  congr 2
  unfold List.getD
  rw [List.getElem?_map, List.getElem?_range' hi]
  simp
end Go.Proofs.Ytnbhifbenfgeeaa
