/- Proto: Encode. -/
import Derived.Test.YtnengokobkehfaaPrV
import Derived.Test.YtnengokobkehfaaPrS
namespace Go.Proofs.Ytnengokobkehfaa
open Go.RowKit
set_option linter.unusedVariables false
variable {w w' W : World}
/-- what a message says, as Encode takes it -/
def toM (c : C) : C := ⟨c.kind, ⟨c.tenant.num, []⟩, ⟨c.name.bs.length, c.name.bs⟩, ⟨c.n.num, []⟩, V0, ⟨c.data.bs.length, c.data.bs⟩⟩
theorem toM_cl {c : C} (h1 : L8 c.name.bs) (h2 : L8 c.data.bs) : (toM c).cl := by
  intro a
  cases a <;> first | exact ⟨rfl, h1⟩ | exact ⟨rfl, h2⟩ | exact rfl
theorem toM_id {c : C} (h : c.cl) (hm : c.get .m = V0) : toM c = c := by
  refine C.ext' rfl fun a => ?_
  have ha := h a
  cases a with
  | tenant => show (⟨c.tenant.num, []⟩ : V) = c.tenant; have hb : c.tenant.bs = [] := ha; rw [← hb]
  | name => show (⟨c.name.bs.length, c.name.bs⟩ : V) = c.name; have hb : c.name.num = c.name.bs.length := ha.1; rw [← hb]
  | n => show (⟨c.n.num, []⟩ : V) = c.n; have hb : c.n.bs = [] := ha; rw [← hb]
  | m => exact hm.symm
  | data => show (⟨c.data.bs.length, c.data.bs⟩ : V) = c.data; have hb : c.data.num = c.data.bs.length := ha.1; rw [← hb]
theorem conv_str (l : List Int) (h8 : L8 l) (hl : l.length ≤ 1099511627776) (w : World) : ∃ v w', (convert 9 22 (.string (strOfNums l))).run Try.prog w = .ok v w' ∧ Up w w' ∧ Bs 0 w' v l := by
  have hs : (strOfNums l).size = l.length := strOfNums_size l
  have hrun := run_bytes_of_string (P := Try.prog) w 9 22 5 (strOfNums l) Try.underlying9 Try.underlying22 Try.underlying5
  have hge := grownCap_ge w (strOfNums l).size 0 5
  have hle := grownCap_le_maxLen w (strOfNums l).size 0 5 (by rw [hs]; unfold maxLen; omega)
  generalize grownCap w (strOfNums l).size 0 5 = cap at hrun hge hle
  refine ⟨_, _, hrun, ((Up.refl w).drew).alloc _, ⟨⟨_, w.heap.size, 0, cap, by rw [hs], by omega, hle, fun _ => ⟨rfl, Nat.zero_le _⟩, fun k x hk => ?_⟩, h8⟩⟩
  have hkl := (List.getElem?_eq_some_iff.1 hk).1
  have hx := h8 x (List.mem_of_getElem? hk)
  refine (cell_of_row _ w.heap.size _ _ _ _ (show _ from heap_alloc_new w.drew _)).trans ?_
  rw [Nat.zero_add, bytesRow_at _ _ k (by show k < (strOfNums l).size; omega)]
  congr 2
  have e : (strOfNums l).data[k]'(by show k < (strOfNums l).size; omega) = UInt8.ofNat x.toNat := by
    have : (strOfNums l).data.toList[k]? = some (UInt8.ofNat x.toNat) := by rw [strOfNums_data, List.getElem?_map, hk]; rfl
    rw [Array.getElem?_toList] at this
    rw [Array.getElem?_eq_getElem (by show k < (strOfNums l).size; omega)] at this
    injection this
  rw [e]
  unfold U8 at hx
  simp
  omega
def uM (a b : Value) : Fld → Value
  | .name => a
  | .data => b
  | _ => .slice none 0 0
theorem msgTn : (msgT.all fun x => decide (x.2.length ≤ 5)) = true := by decide +kernel
theorem repTn : (repT.all fun x => decide (x.2.length ≤ 5)) = true := by decide +kernel
theorem bsM {c : C} {a b : Value} (ha : Bs 0 w a c.name.bs) (hb : Bs 0 w b c.data.bs) : BsC 0 w (uM a b) (toM c) := by
  intro f
  cases f with
  | name => exact ha
  | data => exact hb
  | tenant => exact Bs.nil 0 w
  | n => exact Bs.nil 0 w
  | m => exact Bs.nil 0 w
set_option maxRecDepth 100000 in
set_option maxHeartbeats 1000000 in
theorem encodeM_any {c : C} {d : Value} (W : World) (hd : Bs 0 W d c.data.bs) (h8 : L8 c.name.bs) (hn : c.name.bs.length ≤ 1099511627776) :
    Calls Try.prog 14 #[.agg (mC c d).toArray] W (EncAns W (encF msgT (toM c))) := by
  obtain ⟨da, _, _, dc, hde, _⟩ := hd.ex
  have HD : Hid (Bs 0 W d c.data.bs) := hd
  have H8 : Hid (L8 c.name.bs) := h8
  have HNl : Hid (c.name.bs.length ≤ 1099511627776) := hn
  obtain ⟨dl, hdl⟩ : ∃ dl, dl = c.data.bs.length := ⟨_, rfl⟩
  have HDl : Hid (dl = c.data.bs.length) := hdl
  rw [← hdl] at hde
  subst hde
  obtain ⟨R, hR⟩ : ∃ R, R = encF msgT (toM c) := ⟨_, rfl⟩
  have HR : Hid (R = encF msgT (toM c)) := hR
  rw [← hR]
  obtain ⟨S, hS⟩ : ∃ S, S = strOfNums c.name.bs := ⟨_, rfl⟩
  have HSS : Hid (S = strOfNums c.name.bs) := hS
  have HCv : Hid (∀ w : World, ∃ v w', (convert 9 22 (.string S)).run Try.prog w = .ok v w' ∧ Up w w' ∧ Bs 0 w' v c.name.bs) := fun w => by rw [hS]; exact conv_str c.name.bs h8 hn w
  unfold mC
  rw [← hS]
  clear hd h8 hn hdl hR hS
  have HS : Hid (∀ w' : World, Up (W.alloc (.cells #[.int .i64 c.kind, .int .i64 c.tenant.num, .string S, .int .i64 c.n.num, .slice da dl dc] 35)) w' → w'.cell? ⟨W.heap.size, 0, none⟩ = some (.int .i64 c.kind) ∧ w'.cell? ⟨W.heap.size, 1, none⟩ = some (.int .i64 c.tenant.num) ∧ w'.cell? ⟨W.heap.size, 2, none⟩ = some (.string S) ∧ w'.cell? ⟨W.heap.size, 3, none⟩ = some (.int .i64 c.n.num) ∧ w'.cell? ⟨W.heap.size, 4, none⟩ = some (.slice da dl dc)) := fun w' u => by
    have hh := (u.block W.heap.size (by simp)).trans (heap_alloc_new W _)
    exact ⟨heap_cell hh rfl, heap_cell hh rfl, heap_cell hh rfl, heap_cell hh rfl, heap_cell hh rfl⟩
  have HU0 : Hid (Up W (W.alloc (.cells #[.int .i64 c.kind, .int .i64 c.tenant.num, .string S, .int .i64 c.n.num, .slice da dl dc] 35))) := (Up.refl W).alloc _
  go_enter Try.func14, Try.ntmps14
  go_wp2_with fail
  generalize (W.alloc (.cells #[.int .i64 c.kind, .int .i64 c.tenant.num, .string S, .int .i64 c.n.num, .slice da dl dc] 35)) = wb at *
  refine wp_region_held_drew (S := fun w' : World => w'.cell? ⟨W.heap.size, 0, none⟩ = some (.int .i64 c.kind) ∧ w'.cell? ⟨W.heap.size, 1, none⟩ = some (.int .i64 c.tenant.num) ∧ w'.cell? ⟨W.heap.size, 2, none⟩ = some (.string S) ∧ w'.cell? ⟨W.heap.size, 3, none⟩ = some (.int .i64 c.n.num) ∧ w'.cell? ⟨W.heap.size, 4, none⟩ = some (.slice da dl dc)) (by kernel_rfl) ?_ (fun hHeld => ?_)
  · (try dsimp only); exact HS.out _ (Up.refl _).drew
  have V0_ : Hid (Up wb wb.drew) := (Up.refl wb).drew
  generalize wb.drew = w0 at *
  refine wpAnyH_take (i := 0) (v := ?_) (by simp only [List.getElem?_toArray, List.getElem?_cons_zero]; rfl) (by kernel_rfl) (by kernel_rfl) (by kernel_rfl) (by intro _ _ _ h; exact h) (Or.inl ⟨by rfl, ?_⟩) (by assumption) ?_
  rotate_left
  · (intro w hSw; (try dsimp only at hSw); go_simp <;> with_reducible rfl)
  try simp only [Act.put, List.setIfInBounds_toArray, List.set_cons_zero, List.set_cons_succ]
  refine wpAnyH_take (i := 1) (v := ?_) (by simp only [List.getElem?_toArray, List.getElem?_cons_succ, List.getElem?_cons_zero]; rfl) (by kernel_rfl) (by kernel_rfl) (by kernel_rfl) (by intro _ _ _ h; exact h) (Or.inl ⟨by rfl, ?_⟩) (by assumption) ?_
  rotate_left
  · (intro w hSw; (try dsimp only at hSw); go_simp <;> with_reducible rfl)
  try simp only [Act.put, List.setIfInBounds_toArray, List.set_cons_zero, List.set_cons_succ]
  refine wpAnyH_take (i := 2) (v := ?_) (by simp only [List.getElem?_toArray, List.getElem?_cons_succ, List.getElem?_cons_zero]; rfl) (by kernel_rfl) (by kernel_rfl) (by kernel_rfl) (by intro _ _ _ h; exact h) (Or.inl ⟨by rfl, ?_⟩) (by assumption) ?_
  rotate_left
  · (intro w hSw; (try dsimp only at hSw); go_simp <;> with_reducible rfl)
  try simp only [Act.put, List.setIfInBounds_toArray, List.set_cons_zero, List.set_cons_succ]
  refine wpAnyH_take (i := 3) (v := ?_) (by simp only [List.getElem?_toArray, List.getElem?_cons_succ, List.getElem?_cons_zero]; rfl) (by kernel_rfl) (by kernel_rfl) (by kernel_rfl) (by intro _ _ _ h; exact h) (Or.inl ⟨by rfl, ?_⟩) (by assumption) ?_
  rotate_left
  · (intro w hSw; (try dsimp only at hSw); go_simp <;> with_reducible rfl)
  try simp only [Act.put, List.setIfInBounds_toArray, List.set_cons_zero, List.set_cons_succ]
  refine wpAnyH_take (i := 5) (v := ?_) (by simp only [List.getElem?_toArray, List.getElem?_cons_succ, List.getElem?_cons_zero]; rfl) (by kernel_rfl) (by kernel_rfl) (by kernel_rfl) (by intro _ _ _ h; exact h) (Or.inl ⟨by rfl, ?_⟩) (by assumption) ?_
  rotate_left
  · (intro w hSw; (try dsimp only at hSw); go_simp <;> with_reducible rfl)
  try simp only [Act.put, List.setIfInBounds_toArray, List.set_cons_zero, List.set_cons_succ]
  refine wpAnyH_take (i := 6) (v := ?_) (by simp only [List.getElem?_toArray, List.getElem?_cons_succ, List.getElem?_cons_zero]; rfl) (by kernel_rfl) (by kernel_rfl) (by kernel_rfl) (by intro _ _ _ h; exact h) (Or.inl ⟨by rfl, ?_⟩) (by assumption) ?_
  rotate_left
  · (intro w hSw; (try dsimp only at hSw); go_simp <;> with_reducible rfl)
  try simp only [Act.put, List.setIfInBounds_toArray, List.set_cons_zero, List.set_cons_succ]
  refine wpAnyH_take (i := 9) (v := ?_) (by simp only [List.getElem?_toArray, List.getElem?_cons_succ, List.getElem?_cons_zero]; rfl) (by kernel_rfl) (by kernel_rfl) (by kernel_rfl) (by intro _ _ _ h; exact h) (Or.inl ⟨by rfl, ?_⟩) (by assumption) ?_
  rotate_left
  · (intro w hSw; (try dsimp only at hSw); go_simp <;> with_reducible rfl)
  try simp only [Act.put, List.setIfInBounds_toArray, List.set_cons_zero, List.set_cons_succ]
  refine wpAnyH_take (i := 10) (v := ?_) (by simp only [List.getElem?_toArray, List.getElem?_cons_succ, List.getElem?_cons_zero]; rfl) (by kernel_rfl) (by kernel_rfl) (by kernel_rfl) (by intro _ _ _ h; exact h) (Or.inl ⟨by rfl, ?_⟩) (by assumption) ?_
  rotate_left
  · (intro w hSw; (try dsimp only at hSw); go_simp <;> with_reducible rfl)
  try simp only [Act.put, List.setIfInBounds_toArray, List.set_cons_zero, List.set_cons_succ]
  refine wpAnyH_take (i := 12) (v := ?_) (by simp only [List.getElem?_toArray, List.getElem?_cons_succ, List.getElem?_cons_zero]; rfl) (by kernel_rfl) (by kernel_rfl) (by kernel_rfl) (by intro _ _ _ h; exact h) (Or.inl ⟨by rfl, ?_⟩) (by assumption) ?_
  rotate_left
  · (intro w hSw; (try dsimp only at hSw); go_simp <;> with_reducible rfl)
  try simp only [Act.put, List.setIfInBounds_toArray, List.set_cons_zero, List.set_cons_succ]
  refine wpAnyH_take (i := 13) (v := ?_) (by simp only [List.getElem?_toArray, List.getElem?_cons_succ, List.getElem?_cons_zero]; rfl) (by kernel_rfl) (by kernel_rfl) (by kernel_rfl) (by intro _ _ _ h; exact h) (Or.inl ⟨by rfl, ?_⟩) (by assumption) ?_
  rotate_left
  · (intro w hSw; (try dsimp only at hSw); go_simp <;> with_reducible rfl)
  try simp only [Act.put, List.setIfInBounds_toArray, List.set_cons_zero, List.set_cons_succ]
  refine wpAnyH_ready (rs := [4, 7]) (by kernel_rfl) (by simp) ?_
  refine AllReadyH.cons (by simp only [List.getElem?_toArray, List.getElem?_cons_succ, List.getElem?_cons_zero]; rfl) (fun KK hK => ?_) (AllReadyH.cons (by simp only [List.getElem?_toArray, List.getElem?_cons_succ, List.getElem?_cons_zero]; rfl) (fun KK hK => ?_) AllReadyH.nil)
  · skip
    go_simp
    refine (numberValue_any _ _).mono ?_
    rintro e w1 ⟨rfl, hu⟩
    have V1 : Hid (Up wb w1) := V0_.out.trans hu
    have HUsw1 : Hid (Up w0 w1) := hu
    clear hu
    refine hK.out _ _ ?_ (fun hHeld => ?_)
    · (try dsimp only); exact HS.out _ V1.out
    clear hK KK
    try simp only [Act.put, List.setIfInBounds_toArray, List.set_cons_zero, List.set_cons_succ]
    refine wpAnyH_ready (rs := [7]) (by kernel_rfl) (by simp) ?_
    refine AllReadyH.cons (by simp only [List.getElem?_toArray, List.getElem?_cons_succ, List.getElem?_cons_zero]; rfl) (fun KK hK => ?_) AllReadyH.nil
    obtain ⟨nv, w2, hr, hu, hb⟩ := HCv.out w1
    obtain ⟨na, _, _, nc, hnv, _⟩ := hb.ex
    have V2 : Hid (Up wb w2) := V1.out.trans hu
    have HNw2 : Hid (Bs 0 w2 nv c.name.bs) := hb
    generalize c.name.bs.length = nl at hnv
    subst hnv
    clear hu hb
    go_simp
    refine hK.out _ _ ?_ (fun hHeld => ?_)
    · (try dsimp only); exact HS.out _ V2.out
    clear hr
    clear hK KK
    try simp only [Act.put, List.setIfInBounds_toArray, List.set_cons_zero, List.set_cons_succ]
    have HNb : Hid (Bs 0 w2 (.slice na nl nc) c.name.bs) := HNw2.out
    refine wpAnyH_ready (rs := [8]) (by kernel_rfl) (by simp) ?_
    refine AllReadyH.cons (by simp only [List.getElem?_toArray, List.getElem?_cons_succ, List.getElem?_cons_zero]; rfl) (fun KK hK => ?_) AllReadyH.nil
    go_simp
    refine (listValue_any _ _ _ _).mono ?_
    rintro e w3 ⟨rfl, hu⟩
    have V3 : Hid (Up wb w3) := V2.out.trans hu
    have HUsw3 : Hid (Up w2 w3) := hu
    clear hu
    refine hK.out _ _ ?_ (fun hHeld => ?_)
    · (try dsimp only); exact HS.out _ V3.out
    clear hK KK
    try simp only [Act.put, List.setIfInBounds_toArray, List.set_cons_zero, List.set_cons_succ]
    refine wpAnyH_ready (rs := [11]) (by kernel_rfl) (by simp) ?_
    refine AllReadyH.cons (by simp only [List.getElem?_toArray, List.getElem?_cons_succ, List.getElem?_cons_zero]; rfl) (fun KK hK => ?_) AllReadyH.nil
    go_simp
    refine (numberValue_any _ _).mono ?_
    rintro e w4 ⟨rfl, hu⟩
    have V4 : Hid (Up wb w4) := V3.out.trans hu
    have HUsw4 : Hid (Up w3 w4) := hu
    clear hu
    refine hK.out _ _ ?_ (fun hHeld => ?_)
    · (try dsimp only); exact HS.out _ V4.out
    clear hK KK
    try simp only [Act.put, List.setIfInBounds_toArray, List.set_cons_zero, List.set_cons_succ]
    refine wpAnyH_ready (rs := [14]) (by kernel_rfl) (by simp) ?_
    refine AllReadyH.cons (by simp only [List.getElem?_toArray, List.getElem?_cons_succ, List.getElem?_cons_zero]; rfl) (fun KK hK => ?_) AllReadyH.nil
    go_simp
    refine (listValue_any _ _ _ _).mono ?_
    rintro e w5 ⟨rfl, hu⟩
    have V5 : Hid (Up wb w5) := V4.out.trans hu
    have HUsw5 : Hid (Up w4 w5) := hu
    clear hu
    refine hK.out _ _ ?_ (fun hHeld => ?_)
    · (try dsimp only); exact HS.out _ V5.out
    clear hK KK
    try simp only [Act.put, List.setIfInBounds_toArray, List.set_cons_zero, List.set_cons_succ]
    refine wpAnyH_take (i := 15) (v := ?_) (by simp only [List.getElem?_toArray, List.getElem?_cons_succ, List.getElem?_cons_zero]; rfl) (by kernel_rfl) (by kernel_rfl) (by kernel_rfl) (by intro _ _ _ h; exact h) (Or.inl ⟨by rfl, ?_⟩) (by assumption) ?_
    rotate_left
    · (intro w hSw; (try dsimp only at hSw); go_simp <;> with_reducible rfl)
    try simp only [Act.put, List.setIfInBounds_toArray, List.set_cons_zero, List.set_cons_succ]
    refine wpAnyH_ready (rs := [16]) (by kernel_rfl) (by simp) ?_
    refine AllReadyH.cons (by simp only [List.getElem?_toArray, List.getElem?_cons_succ, List.getElem?_cons_zero]; rfl) (fun KK hK => ?_) AllReadyH.nil
    go_simp
    refine (messageKinds_any _).mono ?_
    rintro e w6 ⟨tb, rfl, hT6, hu⟩
    have V6 : Hid (Up wb w6) := V5.out.trans hu
    have HT6 : Hid (TabAt w6 (tabMsg tb) msgT) := hT6
    have HB6 : Hid (BsC 0 w6 (uM (.slice na nl nc) (.slice da dl dc)) (toM c)) := bsM (HNb.out.up (HUsw3.out.trans (HUsw4.out.trans (HUsw5.out.trans hu)))) (HD.out.up (HU0.out.trans V6.out))
    have HNl2 : Hid (nl = c.name.bs.length) := by
      obtain ⟨_, _, _, _, e, _⟩ := HNb.out.ex
      injection e
    have H8d : Hid (L8 c.data.bs) := HD.out.u8
    clear hT6 hu
    refine hK.out _ _ ?_ (fun hHeld => ?_)
    · (try dsimp only); exact HS.out _ V6.out
    clear hK KK
    try simp only [Act.put, List.setIfInBounds_toArray, List.set_cons_zero, List.set_cons_succ]
    refine wpAnyH_ready (rs := [17]) (by kernel_rfl) (by simp) ?_
    refine AllReadyH.cons (by simp only [List.getElem?_toArray, List.getElem?_cons_succ, List.getElem?_cons_zero]; rfl) (fun KK hK => ?_) AllReadyH.nil
    go_simp
    have HEn : Hid (Calls Try.prog 22 #[.agg (cCells (toM c) (uM (.slice na nl nc) (.slice da dl dc))), tabMsg tb] w6 (EncAns w6 (encF msgT (toM c)))) := encode_any w6 HT6.out HB6.out (toM_cl H8.out H8d.out) msgTn
    rw [← HR.out] at HEn
    have HEq : Hid (cCells (toM c) (uM (.slice na nl nc) (.slice da dl dc)) = #[.int .i64 c.kind, .int .i64 c.tenant.num, .slice none 0 0, .int .i64 (nl : Int), .slice na nl nc, .int .i64 c.n.num, .slice none 0 0, .int .i64 0, .slice none 0 0, .int .i64 (dl : Int), .slice da dl dc]) := by
      show _ = _
      rw [HNl2.out, HDl.out]
      rfl
    rw [HEq.out] at HEn
    unfold tabMsg at HEn
    refine Calls.mono HEn.out ?_
    intro e w7 hE
    cases R with
    | error x =>
      obtain ⟨rfl, hu7⟩ := hE
      have V7 : Hid (Up wb w7) := V6.out.trans hu7
      clear hu7
      refine hK.out _ _ ?_ (fun hHeld => ?_)
      · (try dsimp only); exact HS.out _ V7.out
      clear hK KK
      try simp only [Act.put, List.setIfInBounds_toArray, List.set_cons_zero, List.set_cons_succ]
      refine wpAnyH_take (i := 18) (v := ?_) (by simp only [List.getElem?_toArray, List.getElem?_cons_succ, List.getElem?_cons_zero]; rfl) (by kernel_rfl) (by kernel_rfl) (by kernel_rfl) (by intro _ _ _ h; exact h) (Or.inl ⟨by rfl, ?_⟩) (by assumption) ?_
      rotate_left
      · (intro w hSw; (try dsimp only at hSw); go_simp <;> with_reducible rfl)
      try simp only [Act.put, List.setIfInBounds_toArray, List.set_cons_zero, List.set_cons_succ]
      refine wpAnyH_take (i := 19) (v := ?_) (by simp only [List.getElem?_toArray, List.getElem?_cons_succ, List.getElem?_cons_zero]; rfl) (by kernel_rfl) (by kernel_rfl) (by kernel_rfl) (by intro _ _ _ h; exact h) (Or.inl ⟨by rfl, ?_⟩) (by assumption) ?_
      rotate_left
      · (intro w hSw; (try dsimp only at hSw); go_simp <;> with_reducible rfl)
      try simp only [Act.put, List.setIfInBounds_toArray, List.set_cons_zero, List.set_cons_succ]
      refine wpAnyH_take (i := 20) (v := ?_) (by simp only [List.getElem?_toArray, List.getElem?_cons_succ, List.getElem?_cons_zero]; rfl) (by kernel_rfl) (by kernel_rfl) (by kernel_rfl) (by intro _ _ _ h; exact h) (Or.inl ⟨by rfl, ?_⟩) (by assumption) ?_
      rotate_left
      · (intro w hSw; (try dsimp only at hSw); go_simp <;> with_reducible rfl)
      try simp only [Act.put, List.setIfInBounds_toArray, List.set_cons_zero, List.set_cons_succ]
      refine wpAnyH_take (i := 21) (v := ?_) (by simp only [List.getElem?_toArray, List.getElem?_cons_succ, List.getElem?_cons_zero]; rfl) (by kernel_rfl) (by kernel_rfl) (by kernel_rfl) (by intro _ _ _ h; exact h) (Or.inl ⟨by rfl, ?_⟩) (by assumption) ?_
      rotate_left
      · (intro w hSw; (try dsimp only at hSw); go_simp <;> with_reducible rfl)
      try simp only [Act.put, List.setIfInBounds_toArray, List.set_cons_zero, List.set_cons_succ]
      refine wpAnyH_done (by kernel_rfl) ?_ _
      go_wp2_with fail
      go_ret2
      exact ⟨rfl, HU0.out.trans V7.out⟩
    | ok l =>
      obtain ⟨⟨v7, rfl, ho7⟩, hu7⟩ := hE
      have V7 : Hid (Up wb w7) := V6.out.trans hu7
      have HO7 : Hid (w7.ownsRow W.heap.size 5 1 v7 l.length (u8s l)) := own_base ho7 (Nat.le_trans HU0.out.size V6.out.size)
      obtain ⟨va, vn, vc, hv7⟩ := own_slice3 ho7
      subst hv7
      clear hu7 ho7
      refine hK.out _ _ ?_ (fun hHeld => ?_)
      · (try dsimp only); exact HS.out _ V7.out
      clear hK KK
      try simp only [Act.put, List.setIfInBounds_toArray, List.set_cons_zero, List.set_cons_succ]
      refine wpAnyH_take (i := 18) (v := ?_) (by simp only [List.getElem?_toArray, List.getElem?_cons_succ, List.getElem?_cons_zero]; rfl) (by kernel_rfl) (by kernel_rfl) (by kernel_rfl) (by intro _ _ _ h; exact h) (Or.inl ⟨by rfl, ?_⟩) (by assumption) ?_
      rotate_left
      · (intro w hSw; (try dsimp only at hSw); go_simp <;> with_reducible rfl)
      try simp only [Act.put, List.setIfInBounds_toArray, List.set_cons_zero, List.set_cons_succ]
      refine wpAnyH_take (i := 19) (v := ?_) (by simp only [List.getElem?_toArray, List.getElem?_cons_succ, List.getElem?_cons_zero]; rfl) (by kernel_rfl) (by kernel_rfl) (by kernel_rfl) (by intro _ _ _ h; exact h) (Or.inl ⟨by rfl, ?_⟩) (by assumption) ?_
      rotate_left
      · (intro w hSw; (try dsimp only at hSw); go_simp <;> with_reducible rfl)
      try simp only [Act.put, List.setIfInBounds_toArray, List.set_cons_zero, List.set_cons_succ]
      refine wpAnyH_take (i := 20) (v := ?_) (by simp only [List.getElem?_toArray, List.getElem?_cons_succ, List.getElem?_cons_zero]; rfl) (by kernel_rfl) (by kernel_rfl) (by kernel_rfl) (by intro _ _ _ h; exact h) (Or.inl ⟨by rfl, ?_⟩) (by assumption) ?_
      rotate_left
      · (intro w hSw; (try dsimp only at hSw); go_simp <;> with_reducible rfl)
      try simp only [Act.put, List.setIfInBounds_toArray, List.set_cons_zero, List.set_cons_succ]
      refine wpAnyH_take (i := 21) (v := ?_) (by simp only [List.getElem?_toArray, List.getElem?_cons_succ, List.getElem?_cons_zero]; rfl) (by kernel_rfl) (by kernel_rfl) (by kernel_rfl) (by intro _ _ _ h; exact h) (Or.inl ⟨by rfl, ?_⟩) (by assumption) ?_
      rotate_left
      · (intro w hSw; (try dsimp only at hSw); go_simp <;> with_reducible rfl)
      try simp only [Act.put, List.setIfInBounds_toArray, List.set_cons_zero, List.set_cons_succ]
      refine wpAnyH_done (by kernel_rfl) ?_ _
      go_wp2_with fail
      go_ret2
      exact ⟨⟨_, rfl, HO7.out⟩, HU0.out.trans V7.out⟩
  · skip
    obtain ⟨nv, w1, hr, hu, hb⟩ := HCv.out w0
    obtain ⟨na, _, _, nc, hnv, _⟩ := hb.ex
    have V1 : Hid (Up wb w1) := V0_.out.trans hu
    have HNw1 : Hid (Bs 0 w1 nv c.name.bs) := hb
    generalize c.name.bs.length = nl at hnv
    subst hnv
    clear hu hb
    go_simp
    refine hK.out _ _ ?_ (fun hHeld => ?_)
    · (try dsimp only); exact HS.out _ V1.out
    clear hr
    clear hK KK
    try simp only [Act.put, List.setIfInBounds_toArray, List.set_cons_zero, List.set_cons_succ]
    refine wpAnyH_ready (rs := [4]) (by kernel_rfl) (by simp) ?_
    refine AllReadyH.cons (by simp only [List.getElem?_toArray, List.getElem?_cons_succ, List.getElem?_cons_zero]; rfl) (fun KK hK => ?_) AllReadyH.nil
    go_simp
    refine (numberValue_any _ _).mono ?_
    rintro e w2 ⟨rfl, hu⟩
    have V2 : Hid (Up wb w2) := V1.out.trans hu
    have HUsw2 : Hid (Up w1 w2) := hu
    clear hu
    refine hK.out _ _ ?_ (fun hHeld => ?_)
    · (try dsimp only); exact HS.out _ V2.out
    clear hK KK
    try simp only [Act.put, List.setIfInBounds_toArray, List.set_cons_zero, List.set_cons_succ]
    have HNb : Hid (Bs 0 w2 (.slice na nl nc) c.name.bs) := HNw1.out.up HUsw2.out
    refine wpAnyH_ready (rs := [8]) (by kernel_rfl) (by simp) ?_
    refine AllReadyH.cons (by simp only [List.getElem?_toArray, List.getElem?_cons_succ, List.getElem?_cons_zero]; rfl) (fun KK hK => ?_) AllReadyH.nil
    go_simp
    refine (listValue_any _ _ _ _).mono ?_
    rintro e w3 ⟨rfl, hu⟩
    have V3 : Hid (Up wb w3) := V2.out.trans hu
    have HUsw3 : Hid (Up w2 w3) := hu
    clear hu
    refine hK.out _ _ ?_ (fun hHeld => ?_)
    · (try dsimp only); exact HS.out _ V3.out
    clear hK KK
    try simp only [Act.put, List.setIfInBounds_toArray, List.set_cons_zero, List.set_cons_succ]
    refine wpAnyH_ready (rs := [11]) (by kernel_rfl) (by simp) ?_
    refine AllReadyH.cons (by simp only [List.getElem?_toArray, List.getElem?_cons_succ, List.getElem?_cons_zero]; rfl) (fun KK hK => ?_) AllReadyH.nil
    go_simp
    refine (numberValue_any _ _).mono ?_
    rintro e w4 ⟨rfl, hu⟩
    have V4 : Hid (Up wb w4) := V3.out.trans hu
    have HUsw4 : Hid (Up w3 w4) := hu
    clear hu
    refine hK.out _ _ ?_ (fun hHeld => ?_)
    · (try dsimp only); exact HS.out _ V4.out
    clear hK KK
    try simp only [Act.put, List.setIfInBounds_toArray, List.set_cons_zero, List.set_cons_succ]
    refine wpAnyH_ready (rs := [14]) (by kernel_rfl) (by simp) ?_
    refine AllReadyH.cons (by simp only [List.getElem?_toArray, List.getElem?_cons_succ, List.getElem?_cons_zero]; rfl) (fun KK hK => ?_) AllReadyH.nil
    go_simp
    refine (listValue_any _ _ _ _).mono ?_
    rintro e w5 ⟨rfl, hu⟩
    have V5 : Hid (Up wb w5) := V4.out.trans hu
    have HUsw5 : Hid (Up w4 w5) := hu
    clear hu
    refine hK.out _ _ ?_ (fun hHeld => ?_)
    · (try dsimp only); exact HS.out _ V5.out
    clear hK KK
    try simp only [Act.put, List.setIfInBounds_toArray, List.set_cons_zero, List.set_cons_succ]
    refine wpAnyH_take (i := 15) (v := ?_) (by simp only [List.getElem?_toArray, List.getElem?_cons_succ, List.getElem?_cons_zero]; rfl) (by kernel_rfl) (by kernel_rfl) (by kernel_rfl) (by intro _ _ _ h; exact h) (Or.inl ⟨by rfl, ?_⟩) (by assumption) ?_
    rotate_left
    · (intro w hSw; (try dsimp only at hSw); go_simp <;> with_reducible rfl)
    try simp only [Act.put, List.setIfInBounds_toArray, List.set_cons_zero, List.set_cons_succ]
    refine wpAnyH_ready (rs := [16]) (by kernel_rfl) (by simp) ?_
    refine AllReadyH.cons (by simp only [List.getElem?_toArray, List.getElem?_cons_succ, List.getElem?_cons_zero]; rfl) (fun KK hK => ?_) AllReadyH.nil
    go_simp
    refine (messageKinds_any _).mono ?_
    rintro e w6 ⟨tb, rfl, hT6, hu⟩
    have V6 : Hid (Up wb w6) := V5.out.trans hu
    have HT6 : Hid (TabAt w6 (tabMsg tb) msgT) := hT6
    have HB6 : Hid (BsC 0 w6 (uM (.slice na nl nc) (.slice da dl dc)) (toM c)) := bsM (HNb.out.up (HUsw3.out.trans (HUsw4.out.trans (HUsw5.out.trans hu)))) (HD.out.up (HU0.out.trans V6.out))
    have HNl2 : Hid (nl = c.name.bs.length) := by
      obtain ⟨_, _, _, _, e, _⟩ := HNb.out.ex
      injection e
    have H8d : Hid (L8 c.data.bs) := HD.out.u8
    clear hT6 hu
    refine hK.out _ _ ?_ (fun hHeld => ?_)
    · (try dsimp only); exact HS.out _ V6.out
    clear hK KK
    try simp only [Act.put, List.setIfInBounds_toArray, List.set_cons_zero, List.set_cons_succ]
    refine wpAnyH_ready (rs := [17]) (by kernel_rfl) (by simp) ?_
    refine AllReadyH.cons (by simp only [List.getElem?_toArray, List.getElem?_cons_succ, List.getElem?_cons_zero]; rfl) (fun KK hK => ?_) AllReadyH.nil
    go_simp
    have HEn : Hid (Calls Try.prog 22 #[.agg (cCells (toM c) (uM (.slice na nl nc) (.slice da dl dc))), tabMsg tb] w6 (EncAns w6 (encF msgT (toM c)))) := encode_any w6 HT6.out HB6.out (toM_cl H8.out H8d.out) msgTn
    rw [← HR.out] at HEn
    have HEq : Hid (cCells (toM c) (uM (.slice na nl nc) (.slice da dl dc)) = #[.int .i64 c.kind, .int .i64 c.tenant.num, .slice none 0 0, .int .i64 (nl : Int), .slice na nl nc, .int .i64 c.n.num, .slice none 0 0, .int .i64 0, .slice none 0 0, .int .i64 (dl : Int), .slice da dl dc]) := by
      show _ = _
      rw [HNl2.out, HDl.out]
      rfl
    rw [HEq.out] at HEn
    unfold tabMsg at HEn
    refine Calls.mono HEn.out ?_
    intro e w7 hE
    cases R with
    | error x =>
      obtain ⟨rfl, hu7⟩ := hE
      have V7 : Hid (Up wb w7) := V6.out.trans hu7
      clear hu7
      refine hK.out _ _ ?_ (fun hHeld => ?_)
      · (try dsimp only); exact HS.out _ V7.out
      clear hK KK
      try simp only [Act.put, List.setIfInBounds_toArray, List.set_cons_zero, List.set_cons_succ]
      refine wpAnyH_take (i := 18) (v := ?_) (by simp only [List.getElem?_toArray, List.getElem?_cons_succ, List.getElem?_cons_zero]; rfl) (by kernel_rfl) (by kernel_rfl) (by kernel_rfl) (by intro _ _ _ h; exact h) (Or.inl ⟨by rfl, ?_⟩) (by assumption) ?_
      rotate_left
      · (intro w hSw; (try dsimp only at hSw); go_simp <;> with_reducible rfl)
      try simp only [Act.put, List.setIfInBounds_toArray, List.set_cons_zero, List.set_cons_succ]
      refine wpAnyH_take (i := 19) (v := ?_) (by simp only [List.getElem?_toArray, List.getElem?_cons_succ, List.getElem?_cons_zero]; rfl) (by kernel_rfl) (by kernel_rfl) (by kernel_rfl) (by intro _ _ _ h; exact h) (Or.inl ⟨by rfl, ?_⟩) (by assumption) ?_
      rotate_left
      · (intro w hSw; (try dsimp only at hSw); go_simp <;> with_reducible rfl)
      try simp only [Act.put, List.setIfInBounds_toArray, List.set_cons_zero, List.set_cons_succ]
      refine wpAnyH_take (i := 20) (v := ?_) (by simp only [List.getElem?_toArray, List.getElem?_cons_succ, List.getElem?_cons_zero]; rfl) (by kernel_rfl) (by kernel_rfl) (by kernel_rfl) (by intro _ _ _ h; exact h) (Or.inl ⟨by rfl, ?_⟩) (by assumption) ?_
      rotate_left
      · (intro w hSw; (try dsimp only at hSw); go_simp <;> with_reducible rfl)
      try simp only [Act.put, List.setIfInBounds_toArray, List.set_cons_zero, List.set_cons_succ]
      refine wpAnyH_take (i := 21) (v := ?_) (by simp only [List.getElem?_toArray, List.getElem?_cons_succ, List.getElem?_cons_zero]; rfl) (by kernel_rfl) (by kernel_rfl) (by kernel_rfl) (by intro _ _ _ h; exact h) (Or.inl ⟨by rfl, ?_⟩) (by assumption) ?_
      rotate_left
      · (intro w hSw; (try dsimp only at hSw); go_simp <;> with_reducible rfl)
      try simp only [Act.put, List.setIfInBounds_toArray, List.set_cons_zero, List.set_cons_succ]
      refine wpAnyH_done (by kernel_rfl) ?_ _
      go_wp2_with fail
      go_ret2
      exact ⟨rfl, HU0.out.trans V7.out⟩
    | ok l =>
      obtain ⟨⟨v7, rfl, ho7⟩, hu7⟩ := hE
      have V7 : Hid (Up wb w7) := V6.out.trans hu7
      have HO7 : Hid (w7.ownsRow W.heap.size 5 1 v7 l.length (u8s l)) := own_base ho7 (Nat.le_trans HU0.out.size V6.out.size)
      obtain ⟨va, vn, vc, hv7⟩ := own_slice3 ho7
      subst hv7
      clear hu7 ho7
      refine hK.out _ _ ?_ (fun hHeld => ?_)
      · (try dsimp only); exact HS.out _ V7.out
      clear hK KK
      try simp only [Act.put, List.setIfInBounds_toArray, List.set_cons_zero, List.set_cons_succ]
      refine wpAnyH_take (i := 18) (v := ?_) (by simp only [List.getElem?_toArray, List.getElem?_cons_succ, List.getElem?_cons_zero]; rfl) (by kernel_rfl) (by kernel_rfl) (by kernel_rfl) (by intro _ _ _ h; exact h) (Or.inl ⟨by rfl, ?_⟩) (by assumption) ?_
      rotate_left
      · (intro w hSw; (try dsimp only at hSw); go_simp <;> with_reducible rfl)
      try simp only [Act.put, List.setIfInBounds_toArray, List.set_cons_zero, List.set_cons_succ]
      refine wpAnyH_take (i := 19) (v := ?_) (by simp only [List.getElem?_toArray, List.getElem?_cons_succ, List.getElem?_cons_zero]; rfl) (by kernel_rfl) (by kernel_rfl) (by kernel_rfl) (by intro _ _ _ h; exact h) (Or.inl ⟨by rfl, ?_⟩) (by assumption) ?_
      rotate_left
      · (intro w hSw; (try dsimp only at hSw); go_simp <;> with_reducible rfl)
      try simp only [Act.put, List.setIfInBounds_toArray, List.set_cons_zero, List.set_cons_succ]
      refine wpAnyH_take (i := 20) (v := ?_) (by simp only [List.getElem?_toArray, List.getElem?_cons_succ, List.getElem?_cons_zero]; rfl) (by kernel_rfl) (by kernel_rfl) (by kernel_rfl) (by intro _ _ _ h; exact h) (Or.inl ⟨by rfl, ?_⟩) (by assumption) ?_
      rotate_left
      · (intro w hSw; (try dsimp only at hSw); go_simp <;> with_reducible rfl)
      try simp only [Act.put, List.setIfInBounds_toArray, List.set_cons_zero, List.set_cons_succ]
      refine wpAnyH_take (i := 21) (v := ?_) (by simp only [List.getElem?_toArray, List.getElem?_cons_succ, List.getElem?_cons_zero]; rfl) (by kernel_rfl) (by kernel_rfl) (by kernel_rfl) (by intro _ _ _ h; exact h) (Or.inl ⟨by rfl, ?_⟩) (by assumption) ?_
      rotate_left
      · (intro w hSw; (try dsimp only at hSw); go_simp <;> with_reducible rfl)
      try simp only [Act.put, List.setIfInBounds_toArray, List.set_cons_zero, List.set_cons_succ]
      refine wpAnyH_done (by kernel_rfl) ?_ _
      go_wp2_with fail
      go_ret2
      exact ⟨⟨_, rfl, HO7.out⟩, HU0.out.trans V7.out⟩
end Go.Proofs.Ytnengokobkehfaa
