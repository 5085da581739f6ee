/- Proto: EncodeReply, DecodeReplies, sameReply. -/
import Derived.Test.YtnengokobkehfaaPrW
import Derived.Test.YtnengokobkehfaaPrM
namespace Go.Proofs.Ytnengokobkehfaa
open Go.RowKit
set_option linter.unusedVariables false
variable {w w' W : World}
/-- what a reply says, as EncodeReply takes it -/
def toR (c : C) : C := ⟨c.kind, V0, V0, ⟨c.n.num, []⟩, ⟨c.m.num, []⟩, ⟨c.data.bs.length, c.data.bs⟩⟩
theorem toR_cl {c : C} (h2 : L8 c.data.bs) : (toR c).cl := by
  intro a
  cases a <;> first | exact ⟨rfl, h2⟩ | exact ⟨rfl, L8.nil⟩ | exact rfl
theorem toR_id {c : C} (h : c.cl) (h1 : c.get .tenant = V0) (h2 : c.get .name = V0) : toR c = c := by
  refine C.ext' rfl fun a => ?_
  have ha := h a
  cases a with
  | tenant => exact h1.symm
  | name => exact h2.symm
  | n => show (⟨c.n.num, []⟩ : V) = c.n; have hb : c.n.bs = [] := ha; rw [← hb]
  | m => show (⟨c.m.num, []⟩ : V) = c.m; have hb : c.m.bs = [] := ha; rw [← hb]
  | data => show (⟨c.data.bs.length, c.data.bs⟩ : V) = c.data; have hb : c.data.num = c.data.bs.length := ha.1; rw [← hb]
def uR (b : Value) : Fld → Value
  | .data => b
  | _ => .slice none 0 0
theorem bsR {c : C} {b : Value} (hb : Bs 0 w b c.data.bs) : BsC 0 w (uR b) (toR c) := by
  intro f
  cases f with
  | data => exact hb
  | name => exact Bs.nil 0 w
  | tenant => exact Bs.nil 0 w
  | n => exact Bs.nil 0 w
  | m => exact Bs.nil 0 w
set_option maxRecDepth 100000 in
set_option maxHeartbeats 1000000 in
theorem encodeR_any {c : C} {d : Value} (W : World) (hd : Bs 0 W d c.data.bs) :
    Calls Try.prog 15 #[.agg (rC c d).toArray] W (EncAns W (encF repT (toR c))) := by
  obtain ⟨da, _, _, dc, hde, _⟩ := hd.ex
  have HD : Hid (Bs 0 W d c.data.bs) := hd
  obtain ⟨dl, hdl⟩ : ∃ dl, dl = c.data.bs.length := ⟨_, rfl⟩
  have HDl : Hid (dl = c.data.bs.length) := hdl
  rw [← hdl] at hde
  subst hde
  obtain ⟨R, hR⟩ : ∃ R, R = encF repT (toR c) := ⟨_, rfl⟩
  have HR : Hid (R = encF repT (toR c)) := hR
  rw [← hR]
  unfold rC
  clear hd hdl hR
  have HS : Hid (∀ w' : World, Up (W.alloc (.cells #[.int .i64 c.kind, .int .i64 c.n.num, .int .i64 c.m.num, .slice da dl dc] 44)) w' → w'.cell? ⟨W.heap.size, 0, none⟩ = some (.int .i64 c.kind) ∧ w'.cell? ⟨W.heap.size, 1, none⟩ = some (.int .i64 c.n.num) ∧ w'.cell? ⟨W.heap.size, 2, none⟩ = some (.int .i64 c.m.num) ∧ w'.cell? ⟨W.heap.size, 3, none⟩ = some (.slice da dl dc)) := fun w' u => by
    have hh := (u.block W.heap.size (by simp)).trans (heap_alloc_new W _)
    exact ⟨heap_cell hh rfl, heap_cell hh rfl, heap_cell hh rfl, heap_cell hh rfl⟩
  have HU0 : Hid (Up W (W.alloc (.cells #[.int .i64 c.kind, .int .i64 c.n.num, .int .i64 c.m.num, .slice da dl dc] 44))) := (Up.refl W).alloc _
  go_enter Try.func15, Try.ntmps15
  go_wp2_with fail
  generalize (W.alloc (.cells #[.int .i64 c.kind, .int .i64 c.n.num, .int .i64 c.m.num, .slice da dl dc] 44)) = wb at *
  refine wp_region_held_drew (S := fun w' : World => w'.cell? ⟨W.heap.size, 0, none⟩ = some (.int .i64 c.kind) ∧ w'.cell? ⟨W.heap.size, 1, none⟩ = some (.int .i64 c.n.num) ∧ w'.cell? ⟨W.heap.size, 2, none⟩ = some (.int .i64 c.m.num) ∧ w'.cell? ⟨W.heap.size, 3, none⟩ = some (.slice da dl dc)) (by kernel_rfl) ?_ (fun hHeld => ?_)
  · (try dsimp only); exact HS.out _ (Up.refl _).drew
  have V0_ : Hid (Up wb wb.drew) := (Up.refl wb).drew
  generalize wb.drew = w0 at *
  refine wpAnyH_take (i := 0) (v := ?_) (by simp only [List.getElem?_toArray, List.getElem?_cons_zero]; rfl) (by kernel_rfl) (by kernel_rfl) (by kernel_rfl) (by intro _ _ _ h; exact h) (Or.inl ⟨by rfl, ?_⟩) (by assumption) ?_
  rotate_left
  · (intro w hSw; (try dsimp only at hSw); go_simp <;> with_reducible rfl)
  try simp only [Act.put, List.setIfInBounds_toArray, List.set_cons_zero, List.set_cons_succ]
  refine wpAnyH_take (i := 1) (v := ?_) (by simp only [List.getElem?_toArray, List.getElem?_cons_succ, List.getElem?_cons_zero]; rfl) (by kernel_rfl) (by kernel_rfl) (by kernel_rfl) (by intro _ _ _ h; exact h) (Or.inl ⟨by rfl, ?_⟩) (by assumption) ?_
  rotate_left
  · (intro w hSw; (try dsimp only at hSw); go_simp <;> with_reducible rfl)
  try simp only [Act.put, List.setIfInBounds_toArray, List.set_cons_zero, List.set_cons_succ]
  refine wpAnyH_take (i := 2) (v := ?_) (by simp only [List.getElem?_toArray, List.getElem?_cons_succ, List.getElem?_cons_zero]; rfl) (by kernel_rfl) (by kernel_rfl) (by kernel_rfl) (by intro _ _ _ h; exact h) (Or.inl ⟨by rfl, ?_⟩) (by assumption) ?_
  rotate_left
  · (intro w hSw; (try dsimp only at hSw); go_simp <;> with_reducible rfl)
  try simp only [Act.put, List.setIfInBounds_toArray, List.set_cons_zero, List.set_cons_succ]
  refine wpAnyH_take (i := 3) (v := ?_) (by simp only [List.getElem?_toArray, List.getElem?_cons_succ, List.getElem?_cons_zero]; rfl) (by kernel_rfl) (by kernel_rfl) (by kernel_rfl) (by intro _ _ _ h; exact h) (Or.inl ⟨by rfl, ?_⟩) (by assumption) ?_
  rotate_left
  · (intro w hSw; (try dsimp only at hSw); go_simp <;> with_reducible rfl)
  try simp only [Act.put, List.setIfInBounds_toArray, List.set_cons_zero, List.set_cons_succ]
  refine wpAnyH_take (i := 5) (v := ?_) (by simp only [List.getElem?_toArray, List.getElem?_cons_succ, List.getElem?_cons_zero]; rfl) (by kernel_rfl) (by kernel_rfl) (by kernel_rfl) (by intro _ _ _ h; exact h) (Or.inl ⟨by rfl, ?_⟩) (by assumption) ?_
  rotate_left
  · (intro w hSw; (try dsimp only at hSw); go_simp <;> with_reducible rfl)
  try simp only [Act.put, List.setIfInBounds_toArray, List.set_cons_zero, List.set_cons_succ]
  refine wpAnyH_take (i := 6) (v := ?_) (by simp only [List.getElem?_toArray, List.getElem?_cons_succ, List.getElem?_cons_zero]; rfl) (by kernel_rfl) (by kernel_rfl) (by kernel_rfl) (by intro _ _ _ h; exact h) (Or.inl ⟨by rfl, ?_⟩) (by assumption) ?_
  rotate_left
  · (intro w hSw; (try dsimp only at hSw); go_simp <;> with_reducible rfl)
  try simp only [Act.put, List.setIfInBounds_toArray, List.set_cons_zero, List.set_cons_succ]
  refine wpAnyH_take (i := 8) (v := ?_) (by simp only [List.getElem?_toArray, List.getElem?_cons_succ, List.getElem?_cons_zero]; rfl) (by kernel_rfl) (by kernel_rfl) (by kernel_rfl) (by intro _ _ _ h; exact h) (Or.inl ⟨by rfl, ?_⟩) (by assumption) ?_
  rotate_left
  · (intro w hSw; (try dsimp only at hSw); go_simp <;> with_reducible rfl)
  try simp only [Act.put, List.setIfInBounds_toArray, List.set_cons_zero, List.set_cons_succ]
  refine wpAnyH_take (i := 9) (v := ?_) (by simp only [List.getElem?_toArray, List.getElem?_cons_succ, List.getElem?_cons_zero]; rfl) (by kernel_rfl) (by kernel_rfl) (by kernel_rfl) (by intro _ _ _ h; exact h) (Or.inl ⟨by rfl, ?_⟩) (by assumption) ?_
  rotate_left
  · (intro w hSw; (try dsimp only at hSw); go_simp <;> with_reducible rfl)
  try simp only [Act.put, List.setIfInBounds_toArray, List.set_cons_zero, List.set_cons_succ]
  refine wpAnyH_ready (rs := [4]) (by kernel_rfl) (by simp) ?_
  refine AllReadyH.cons (by simp only [List.getElem?_toArray, List.getElem?_cons_succ, List.getElem?_cons_zero]; rfl) (fun KK hK => ?_) AllReadyH.nil
  go_simp
  refine (numberValue_any _ _).mono ?_
  rintro e w3 ⟨rfl, hu⟩
  have V3 : Hid (Up wb w3) := V0_.out.trans hu
  clear hu
  refine hK.out _ _ ?_ (fun hHeld => ?_)
  · (try dsimp only); exact HS.out _ V3.out
  clear hK KK
  try simp only [Act.put, List.setIfInBounds_toArray, List.set_cons_zero, List.set_cons_succ]
  refine wpAnyH_ready (rs := [7]) (by kernel_rfl) (by simp) ?_
  refine AllReadyH.cons (by simp only [List.getElem?_toArray, List.getElem?_cons_succ, List.getElem?_cons_zero]; rfl) (fun KK hK => ?_) AllReadyH.nil
  go_simp
  refine (numberValue_any _ _).mono ?_
  rintro e w4 ⟨rfl, hu⟩
  have V4 : Hid (Up wb w4) := V3.out.trans hu
  clear hu
  refine hK.out _ _ ?_ (fun hHeld => ?_)
  · (try dsimp only); exact HS.out _ V4.out
  clear hK KK
  try simp only [Act.put, List.setIfInBounds_toArray, List.set_cons_zero, List.set_cons_succ]
  refine wpAnyH_ready (rs := [10]) (by kernel_rfl) (by simp) ?_
  refine AllReadyH.cons (by simp only [List.getElem?_toArray, List.getElem?_cons_succ, List.getElem?_cons_zero]; rfl) (fun KK hK => ?_) AllReadyH.nil
  go_simp
  refine (listValue_any _ _ _ _).mono ?_
  rintro e w5 ⟨rfl, hu⟩
  have V5 : Hid (Up wb w5) := V4.out.trans hu
  clear hu
  refine hK.out _ _ ?_ (fun hHeld => ?_)
  · (try dsimp only); exact HS.out _ V5.out
  clear hK KK
  try simp only [Act.put, List.setIfInBounds_toArray, List.set_cons_zero, List.set_cons_succ]
  refine wpAnyH_take (i := 11) (v := ?_) (by simp only [List.getElem?_toArray, List.getElem?_cons_succ, List.getElem?_cons_zero]; rfl) (by kernel_rfl) (by kernel_rfl) (by kernel_rfl) (by intro _ _ _ h; exact h) (Or.inl ⟨by rfl, ?_⟩) (by assumption) ?_
  rotate_left
  · (intro w hSw; (try dsimp only at hSw); go_simp <;> with_reducible rfl)
  try simp only [Act.put, List.setIfInBounds_toArray, List.set_cons_zero, List.set_cons_succ]
  refine wpAnyH_ready (rs := [12]) (by kernel_rfl) (by simp) ?_
  refine AllReadyH.cons (by simp only [List.getElem?_toArray, List.getElem?_cons_succ, List.getElem?_cons_zero]; rfl) (fun KK hK => ?_) AllReadyH.nil
  go_simp
  refine (replyKinds_any _).mono ?_
  rintro e w6 ⟨tb, rfl, hT6, hu⟩
  have V6 : Hid (Up wb w6) := V5.out.trans hu
  have HT6 : Hid (TabAt w6 (tabRep tb) repT) := hT6
  have HB6 : Hid (BsC 0 w6 (uR (.slice da dl dc)) (toR c)) := bsR (HD.out.up (HU0.out.trans V6.out))
  have H8d : Hid (L8 c.data.bs) := HD.out.u8
  clear hT6 hu
  refine hK.out _ _ ?_ (fun hHeld => ?_)
  · (try dsimp only); exact HS.out _ V6.out
  clear hK KK
  try simp only [Act.put, List.setIfInBounds_toArray, List.set_cons_zero, List.set_cons_succ]
  refine wpAnyH_ready (rs := [13]) (by kernel_rfl) (by simp) ?_
  refine AllReadyH.cons (by simp only [List.getElem?_toArray, List.getElem?_cons_succ, List.getElem?_cons_zero]; rfl) (fun KK hK => ?_) AllReadyH.nil
  go_simp
  have HEn : Hid (Calls Try.prog 22 #[.agg (cCells (toR c) (uR (.slice da dl dc))), tabRep tb] w6 (EncAns w6 (encF repT (toR c)))) := encode_any w6 HT6.out HB6.out (toR_cl H8d.out) repTn
  rw [← HR.out] at HEn
  have HEq : Hid (cCells (toR c) (uR (.slice da dl dc)) = #[.int .i64 c.kind, .int .i64 0, .slice none 0 0, .int .i64 0, .slice none 0 0, .int .i64 c.n.num, .slice none 0 0, .int .i64 c.m.num, .slice none 0 0, .int .i64 (dl : Int), .slice da dl dc]) := by
    show _ = _
    rw [HDl.out]
    rfl
  rw [HEq.out] at HEn
  unfold tabRep at HEn
  refine Calls.mono HEn.out ?_
  intro e w7 hE
  cases R with
  | error x =>
    obtain ⟨rfl, hu7⟩ := hE
    have V7 : Hid (Up wb w7) := V6.out.trans hu7
    clear hu7
    refine hK.out _ _ ?_ (fun hHeld => ?_)
    · (try dsimp only); exact HS.out _ V7.out
    clear hK KK
    try simp only [Act.put, List.setIfInBounds_toArray, List.set_cons_zero, List.set_cons_succ]
    refine wpAnyH_take (i := 14) (v := ?_) (by simp only [List.getElem?_toArray, List.getElem?_cons_succ, List.getElem?_cons_zero]; rfl) (by kernel_rfl) (by kernel_rfl) (by kernel_rfl) (by intro _ _ _ h; exact h) (Or.inl ⟨by rfl, ?_⟩) (by assumption) ?_
    rotate_left
    · (intro w hSw; (try dsimp only at hSw); go_simp <;> with_reducible rfl)
    try simp only [Act.put, List.setIfInBounds_toArray, List.set_cons_zero, List.set_cons_succ]
    refine wpAnyH_take (i := 15) (v := ?_) (by simp only [List.getElem?_toArray, List.getElem?_cons_succ, List.getElem?_cons_zero]; rfl) (by kernel_rfl) (by kernel_rfl) (by kernel_rfl) (by intro _ _ _ h; exact h) (Or.inl ⟨by rfl, ?_⟩) (by assumption) ?_
    rotate_left
    · (intro w hSw; (try dsimp only at hSw); go_simp <;> with_reducible rfl)
    try simp only [Act.put, List.setIfInBounds_toArray, List.set_cons_zero, List.set_cons_succ]
    refine wpAnyH_take (i := 16) (v := ?_) (by simp only [List.getElem?_toArray, List.getElem?_cons_succ, List.getElem?_cons_zero]; rfl) (by kernel_rfl) (by kernel_rfl) (by kernel_rfl) (by intro _ _ _ h; exact h) (Or.inl ⟨by rfl, ?_⟩) (by assumption) ?_
    rotate_left
    · (intro w hSw; (try dsimp only at hSw); go_simp <;> with_reducible rfl)
    try simp only [Act.put, List.setIfInBounds_toArray, List.set_cons_zero, List.set_cons_succ]
    refine wpAnyH_take (i := 17) (v := ?_) (by simp only [List.getElem?_toArray, List.getElem?_cons_succ, List.getElem?_cons_zero]; rfl) (by kernel_rfl) (by kernel_rfl) (by kernel_rfl) (by intro _ _ _ h; exact h) (Or.inl ⟨by rfl, ?_⟩) (by assumption) ?_
    rotate_left
    · (intro w hSw; (try dsimp only at hSw); go_simp <;> with_reducible rfl)
    try simp only [Act.put, List.setIfInBounds_toArray, List.set_cons_zero, List.set_cons_succ]
    refine wpAnyH_done (by kernel_rfl) ?_ _
    go_wp2_with fail
    go_ret2
    exact ⟨rfl, HU0.out.trans V7.out⟩
  | ok l =>
    obtain ⟨⟨v7, rfl, ho7⟩, hu7⟩ := hE
    have V7 : Hid (Up wb w7) := V6.out.trans hu7
    have HO7 : Hid (w7.ownsRow W.heap.size 5 1 v7 l.length (u8s l)) := own_base ho7 (Nat.le_trans HU0.out.size V6.out.size)
    obtain ⟨va, vn, vc, hv7⟩ := own_slice3 ho7
    subst hv7
    clear hu7 ho7
    refine hK.out _ _ ?_ (fun hHeld => ?_)
    · (try dsimp only); exact HS.out _ V7.out
    clear hK KK
    try simp only [Act.put, List.setIfInBounds_toArray, List.set_cons_zero, List.set_cons_succ]
    refine wpAnyH_take (i := 14) (v := ?_) (by simp only [List.getElem?_toArray, List.getElem?_cons_succ, List.getElem?_cons_zero]; rfl) (by kernel_rfl) (by kernel_rfl) (by kernel_rfl) (by intro _ _ _ h; exact h) (Or.inl ⟨by rfl, ?_⟩) (by assumption) ?_
    rotate_left
    · (intro w hSw; (try dsimp only at hSw); go_simp <;> with_reducible rfl)
    try simp only [Act.put, List.setIfInBounds_toArray, List.set_cons_zero, List.set_cons_succ]
    refine wpAnyH_take (i := 15) (v := ?_) (by simp only [List.getElem?_toArray, List.getElem?_cons_succ, List.getElem?_cons_zero]; rfl) (by kernel_rfl) (by kernel_rfl) (by kernel_rfl) (by intro _ _ _ h; exact h) (Or.inl ⟨by rfl, ?_⟩) (by assumption) ?_
    rotate_left
    · (intro w hSw; (try dsimp only at hSw); go_simp <;> with_reducible rfl)
    try simp only [Act.put, List.setIfInBounds_toArray, List.set_cons_zero, List.set_cons_succ]
    refine wpAnyH_take (i := 16) (v := ?_) (by simp only [List.getElem?_toArray, List.getElem?_cons_succ, List.getElem?_cons_zero]; rfl) (by kernel_rfl) (by kernel_rfl) (by kernel_rfl) (by intro _ _ _ h; exact h) (Or.inl ⟨by rfl, ?_⟩) (by assumption) ?_
    rotate_left
    · (intro w hSw; (try dsimp only at hSw); go_simp <;> with_reducible rfl)
    try simp only [Act.put, List.setIfInBounds_toArray, List.set_cons_zero, List.set_cons_succ]
    refine wpAnyH_take (i := 17) (v := ?_) (by simp only [List.getElem?_toArray, List.getElem?_cons_succ, List.getElem?_cons_zero]; rfl) (by kernel_rfl) (by kernel_rfl) (by kernel_rfl) (by intro _ _ _ h; exact h) (Or.inl ⟨by rfl, ?_⟩) (by assumption) ?_
    rotate_left
    · (intro w hSw; (try dsimp only at hSw); go_simp <;> with_reducible rfl)
    try simp only [Act.put, List.setIfInBounds_toArray, List.set_cons_zero, List.set_cons_succ]
    refine wpAnyH_done (by kernel_rfl) ?_ _
    go_wp2_with fail
    go_ret2
    exact ⟨⟨_, rfl, HO7.out⟩, HU0.out.trans V7.out⟩
set_option maxRecDepth 100000 in
set_option maxHeartbeats 800000 in
theorem decNR_any {tv : Value} (W : World) : Calls Try.prog 26 #[.slice none 0 0, tv, .func (.func 27) #[] #[]] W (DecR repT (fn []) 0 W) := by
  have HFst : Hid (Calls Try.prog 28 #[.slice none 0 0] W fun e w' => e = .returned (.tuple #[.slice none 0 0, .int .i64 0]) ∧ w' = W) := by
    have := first_any (g := 0) (O := 0) (N := 0) (a := 0) (c := 0) (f := fn []) none W ⟨fun k hk => absurd hk (by omega), fn_u8 L8.nil⟩ (Nat.le_refl _) (by omega) (by unfold maxLen; omega) (fun h => absurd h (by omega))
    rw [Nat.sub_self, fst_wait.2 (Or.inl (by omega))] at this
    exact this
  go_enter Try.func26, Try.ntmps26
  go_wp2_with fail
  go_loopw [9, 10] (fun lv i wr => lv = .slice none 0 0 ∧ i = .int .i64 0 ∧ wr = W) (fun _ i _ => 0)
  case atStart => exact ⟨rfl, rfl, rfl⟩
  case round =>
    obtain ⟨rfl, rfl, rfl⟩ := hrel
    go_wp2_with fail
    refine Calls.mono HFst.out ?_
    rintro e w1 ⟨rfl, rfl⟩
    go_wp2_with fail
    go_ret3
    exact ⟨_, [], 0, 0, rfl, Dec.none (Nat.le_refl _), ⟨World.ownsRow_nil _ _ _ _, fun x h => by cases h⟩, Up.refl _⟩
theorem decOR_any {tv v : Value} {base : Nat} {l : List Int} (W : World) (hT : TabAt W tv repT) (ho : W.ownsRow base 5 1 v l.length (u8s l)) (h8 : L8 l) (hl : l.length ≤ 1099511627776) :
    Calls Try.prog 26 #[v, tv, .func (.func 27) #[] #[]] W (DecR repT (fn l) l.length W) := by
  rcases own_cases ho with ⟨h1, h2, h3⟩ | ⟨g, cap, h1, h2, h3, _⟩
  · have e : l = [] := List.length_eq_zero_iff.1 h2
    subst e h1
    exact decNR_any W
  · subst h1
    exact decR_any W hT (dt_own ho h8) h2 h3 hl
set_option maxRecDepth 100000 in
set_option maxHeartbeats 800000 in
theorem decodeR_any {v : Value} {base : Nat} {l : List Int} (W : World) (ho : W.ownsRow base 5 1 v l.length (u8s l)) (h8 : L8 l) (hl : l.length ≤ 1099511627776) :
    Calls Try.prog 16 #[v] W fun e w' => ∃ lv rs r er, e = .returned (.tuple #[lv, .int .i64 ((r : Nat) : Int), .int .i64 er]) ∧ Dec repT (fn l) l.length 0 (rs.map (·.1)) r er ∧ RowsR (fun b => W.heap.size ≤ b ∧ lv.ownBlock ≠ some b) W.heap.size w' lv rs ∧ Up W w' := by
  obtain ⟨va, vn, vc, hv⟩ := own_slice3 ho
  subst hv
  have HDec : Hid (∀ (tv : Value) (w3 : World), TabAt w3 tv repT → Up W w3 → Calls Try.prog 26 #[.slice va vn vc, tv, .func (.func 27) #[] #[]] w3 (DecR repT (fn l) l.length w3)) := fun tv w3 hT u => decOR_any w3 hT (ownsRow_up ho u) h8 hl
  clear ho h8 hl
  go_enter Try.func16, Try.ntmps16
  go_wp2_with fail
  refine (replyKinds_any _).mono ?_
  rintro e w3 ⟨tb, rfl, hT3, hU3⟩
  have HC : Hid _ := HDec.out _ _ hT3 hU3
  have HU3 : Hid (Up W w3) := hU3
  clear HDec hT3 hU3
  unfold tabRep at HC ⊢
  go_wp2_with fail
  refine Calls.mono HC.out ?_
  rintro e w4 ⟨lv, rs, r, er, rfl, hDc, hRw, hU4⟩
  have HF : Hid (Dec repT (fn l) l.length 0 (rs.map (·.1)) r er ∧ RowsR (fun b => w3.heap.size ≤ b ∧ lv.ownBlock ≠ some b) w3.heap.size w4 lv rs ∧ Up w3 w4) := ⟨hDc, hRw, hU4⟩
  obtain ⟨la, ln, lc, hl⟩ := own_slice3 hRw.own
  subst hl
  clear hDc hRw hU4
  go_wp2_with fail
  go_ret3
  have hs := HU3.out.size
  exact ⟨_, rs, r, er, rfl, HF.out.1, ⟨own_base HF.out.2.1.own hs, fun x hx => (HF.out.2.1.dat x hx).keep fun b hb _ => ⟨rfl, by omega, hb.2⟩⟩, HU3.out.trans HF.out.2.2⟩
set_option maxRecDepth 100000 in
set_option maxHeartbeats 800000 in
theorem sameR_yes {c : C} {d1 d2 : Value} (w : World) (h1 : Bs 0 w d1 c.data.bs) (h2 : Bs 0 w d2 c.data.bs) :
    Calls Try.prog 17 #[.agg (rC c d1).toArray, .agg (rC c d2).toArray] w fun e w' => e = .returned (.bool true) ∧ Up w w' := by
  obtain ⟨a1, _, _, c1, e1, _⟩ := h1.ex
  obtain ⟨a2, _, _, c2, e2, _⟩ := h2.ex
  have hss := str_self
  unfold rC
  obtain ⟨s, hs⟩ : ∃ s, s = strOfNums c.data.bs := ⟨_, rfl⟩
  have HC1 : Hid (∀ w', Up w w' → (convert 22 9 d1).run Try.prog w' = .ok (.string (strOfNums c.data.bs)) w') := fun w' u => (h1.up u).conv
  have HC2 : Hid (∀ w', Up w w' → (convert 22 9 d2).run Try.prog w' = .ok (.string (strOfNums c.data.bs)) w') := fun w' u => (h2.up u).conv
  rw [← hs] at HC1 HC2
  rw [e1] at HC1 ⊢
  rw [e2] at HC2 ⊢
  generalize c.data.bs.length = n at *
  clear hs h1 h2 e1 e2
  have hc1 := fun o o' => HC1.out ((w.alloc o).alloc o') (((Up.refl w).alloc o).alloc o')
  have hc2 := fun o o' => HC2.out ((w.alloc o).alloc o') (((Up.refl w).alloc o).alloc o')
  go_enter Try.func17, Try.ntmps17
  go_wp2
  go_ret
  exact ⟨rfl, ((Up.refl w).alloc _).alloc _⟩
end Go.Proofs.Ytnengokobkehfaa
