/- Proved: for every list of acts and all other arguments the law CartSaves answers true, where the tables of types, rows and sizes are as the program's text lays them. -/
import Derived.Test.YtkcmhojninhhoaaDoorCaU
import Derived.Test.YtkcmhojninhhoaaDoorWSv
namespace Go.Proofs.YtkcmhojninhhoaaDoor.cartSaves
open Go.ChangeShapes Go.WideShapes Go.ChangeAt Go.RowKit Go.Deep
set_option linter.unusedVariables false
theorem up_same {W W' : World} (h : Up W W') {p : MemPlace} (hp : p.block < W.heap.size) : W.sameAt W' p := by
  cases p with
  | cell b off => exact h.cell hp
  | map b => exact h.block b hp
set_option maxRecDepth 100000 in
/-- Numbers as they come in. -/
theorem ints_of {H : Type} {enc : TypeId × Value → H} {W : World} {n : Nat} {aa : Option Addr} {len cap : Nat} {x : DataW H × List MemPlace}
    (h2 : DataW.trod enc Tryd.prog W 0 (fun _ => true) true n 25 [.slice aa len cap] = some x) :
    ∃ (ab ao : Nat) (f : Nat → Int), Ints W aa ab ao len cap f := by
  have z0 : I64 0 := by unfold I64; decide
  rcases open_ints Tryd.underlying25 Tryd.underlying3 cells3 h2 with ⟨hcs, hx⟩ | ⟨a, len', cap', zs, hcs, _, hl, hm, hz, hx, hcell, hwz⟩
  · simp at hcs
    obtain ⟨rfl, rfl, rfl⟩ := hcs
    exact ⟨0, 0, fun _ => 0, Nat.le_refl _, Nat.zero_le _, fun h => by omega, fun _ => z0, fun k hk => by omega⟩
  · simp at hcs
    obtain ⟨rfl, rfl, rfl⟩ := hcs
    simp only [if_true] at hz
    by_cases h0 : len = 0
    · subst h0
      exact ⟨0, 0, fun _ => 0, hl, hm, fun h => by omega, fun _ => z0, fun k hk => by omega⟩
    · obtain ⟨b, off, spot⟩ := a
      have hspot : spot = none := by simpa [Addr.add] using World.cell?_spot (hcell 0 (by omega))
      subst hspot
      refine ⟨b, off, fun k => zs.getD k 0, hl, hm, fun _ => rfl, fun k => ?_, fun k hk => by have hc := hcell k (by omega); rw [show (⟨b, off, none⟩ : Addr).add k = ⟨b, off + k, none⟩ by unfold Addr.add; split <;> simp_all] at hc; exact hc⟩
      show I64 (zs.getD k 0)
      rw [List.getD_eq_getElem?_getD]
      cases h : zs[k]? with
      | none => exact z0
      | some y => exact i64Of (hwz y (List.mem_of_getElem? h))
/-- The tables. -/
theorem of_laid (W : World) (h : laidMetH Tryd.prog Rows.cartSavesRow.laid W) : Tb W ∧ Tys W := by
  rw [MakeChecks.laidMetH_plain _ _ _ (by kernel_rfl)] at h
  have m1 : ("arcade/cart.rows", DataW.agg (rowsT.map Rw.data)) ∈ Rows.cartSavesRow.laid := List.mem_cons.2 (Or.inl rfl)
  have m2 : ("arcade/cart.ramSizes", (DataW.agg [.lit (.int .i64 0), .lit (.int .i64 0), .lit (.int .i64 8192), .lit (.int .i64 32768), .lit (.int .i64 131072), .lit (.int .i64 65536)] : DataW Unit)) ∈ Rows.cartSavesRow.laid := List.mem_cons.2 (Or.inr (List.mem_cons.2 (Or.inl rfl)))
  have m3 : ("arcade/arcadelaw4.types", (DataW.slice (typesV.map fun z => .lit (.int .i64 z)) [] : DataW Unit)) ∈ Rows.cartSavesRow.laid := List.mem_cons.2 (Or.inr (List.mem_cons.2 (Or.inr (List.mem_cons.2 (Or.inl rfl)))))
  exact ⟨⟨rows_of h m1, rams_of h m2⟩, types_of h m3⟩
/-- The door's own heap meets the condition. -/
theorem door_met (os : Os) (args : Array Value) : laidMetH Tryd.prog Rows.cartSavesRow.laid ((World.doorLaid Tryd.prog 400 os).forCall (fun _ _ => 0) ⟨#[], args, []⟩).memory :=
  laidMetH_of_parts3 (fuel := 8) (laidMet_of_run' 8 (by kernel_rfl) (by kernel_rfl)) (by kernel_rfl) (by kernel_rfl)
set_option maxRecDepth 100000 in
theorem lifted (os : Os) (started : os.Started) (H : Type) (enc : TypeId × Value → H) :
    ReturnsInHanded {} Tryd.checked os 9 .any (fun w args => (Rows.cartSavesSpec.pre enc Tryd.prog Tryd.f9 [] false w args ∧ laidMetH Tryd.prog Rows.cartSavesRow.laid w) ∧ sizedMet enc Tryd.prog Tryd.f9 (OpenSpec.ofChange Rows.cartSavesSpec) false w args)
      (Rows.cartSavesSpec.post enc Tryd.prog Tryd.f9 false true false false) := by
  refine returnsInHanded_of_change_and (C := Tryd.checked) (X := fun w _ => laidMetH Tryd.prog Rows.cartSavesRow.laid w) (fun _ _ _ hh h => h.of_heap hh) own started (by kernel_rfl) Tryd.func9
    (ChangeSpec.witness_shaped (enc := enc) (C := Tryd.checked) (os := os) (X := fun w _ => laidMetH Tryd.prog Rows.cartSavesRow.laid w) false (World.doorLaid Tryd.prog 400 os) #[.int .i64 0, .slice none 0 0, .int .i64 0] 8 rfl (World.shaped_of_RefB (by kernel_rfl) (by kernel_rfl)) (by kernel_rfl) (by kernel_rfl) (by kernel_rfl) (door_met os _)) ?_
  intro W base args ds gs before hval0 hW _ _ hL _
  have hval : ∀ (j : Nat) t v, Tryd.f9.params[j]? = some t → args[j]? = some v → Value.okWide Tryd.prog W .any base t v := hval0
  have hW' := hW
  obtain ⟨p, q, hA0, hV, rfl, hfz, hnd⟩ := hW
  have hA : DataW.TrodAll enc Tryd.prog W 0 (fun _ => true) true Tryd.f9.params.toList args.toList ds p := hA0
  rw [Tryd.params9] at hA hval
  obtain ⟨v0, vs0, d0, ds0, p0, q0, hargs, rfl, rfl, h0, r0⟩ := trodAll_cons hA
  obtain ⟨v1, vs1, d1, ds1, p1, q1, rfl, rfl, rfl, h1, r1⟩ := trodAll_cons r0
  obtain ⟨v2, vs2, d2, ds2, p2, q2, rfl, rfl, rfl, h2, r2⟩ := trodAll_cons r1
  obtain ⟨rfl, rfl, rfl⟩ := trodAll_nil r2
  obtain rfl : args = #[v0, v1, v2] := by cases args; simp_all
  obtain ⟨rfl, rfl⟩ := trodVars_none hV
  obtain ⟨a0, rfl, rfl, rfl, w0⟩ := open_int Tryd.underlying3 (hval 0 3 v0 rfl rfl) h0
  obtain ⟨a2, rfl, rfl, rfl, w2⟩ := open_int Tryd.underlying3 (hval 2 3 v2 rfl rfl) h2
  obtain ⟨aa1, len1, cap1, rfl⟩ := okWide_slice Tryd.underlying25 (hval 1 25 v1 rfl rfl)
  have k1 := h1
  obtain ⟨fuel1, hf1⟩ := h1
  have hlt1 : ∀ x ∈ p1, x.block < W.heap.size := fun x hx => by simpa using hW'.lt x (by simp [hx])
  obtain ⟨ab1, ao1, f1, A1⟩ := ints_of (by simpa [Value.cells] using hf1)
  clear hA0 hval0
  refine (saves_walk (of_laid W hL) a0 (i64Of w0) A1 a2 (i64Of w2)).mono fun e W' ⟨he, hu⟩ => ?_
  subst he
  have stay1 : DataW.Trod enc Tryd.prog W' 0 (fun b => decide (b < W.heap.size)) true 25 (.slice aa1 len1 cap1) d1 p1 :=
    WideElems.Trod_stays laidOut (by kernel_rfl) (of_decide_eq_true (by kernel_rfl)) k1 (fun x hx => up_same hu (hlt1 x hx)) (fun x hx => by simpa using hlt1 x hx)
  exact ⟨_, rfl, _, _, _, [], _, [], hW', trodAll_mk1 (shut_bool Tryd.underlying4 _), (trodAll_cons_mk (shut_int Tryd.underlying3 w0) (trodAll_cons_mk stay1 (trodAll_cons_mk (shut_int Tryd.underlying3 w2) trodAll_mk0))), rfl, World.keptBut_mono (fun _ f => f.elim) (grownOf hu), fun h => by cases h⟩
theorem over : Rows.cartSavesRow.holds Tryd.pinned (OpenSpec.ofChange Rows.cartSavesSpec) :=
  OpenClaim.holds_of_wide 9 Tryd.f9 rfl rfl rfl rfl rfl rfl rfl ⟨rfl, rfl, rfl, rfl, rfl⟩ rfl rfl rfl rfl rfl (by kernel_rfl) Tryd.func9 (by kernel_rfl)
    (of_decide_eq_true (by kernel_rfl)) (by unfold Func.isWrapper; first | (rw [if_pos (by decide +kernel)]; kernel_rfl) | (rw [if_neg (by decide +kernel)]; exact ⟨rfl, rfl⟩))
    (fun os started H enc _ => lifted os started H enc)
theorem proved : Rows.CartSavesSaid := over
/-- The card: the row, its table tied to the program's text. -/
theorem card : Rows.CartSavesCardSaid :=
  Claim7.holds_tied_plain_at .later [] [.data, .data, .data] true (true, "f6d4fad835ca792670c72d1ebafe4a1b59612f0a13e2676546f4fb9beb766307") true
    proved (fun _ h => by cases h) (by kernel_rfl) (fun _ h => by cases h) cartSaves_row_tie rfl ⟨rfl, rfl⟩ (by kernel_rfl) rfl
    (fun f fn hf hfn => by
      obtain rfl : f = 9 := Option.some.inj ((show Tryd.prog.funcNamed "arcade/arcadelaw4.CartSaves" = some 9 by kernel_rfl).symm.trans hf) |>.symm
      obtain rfl : fn = Tryd.f9 := (Option.some.inj (Tryd.func9.symm.trans hfn)).symm
      exact ⟨by kernel_rfl, fun j t ht => by
        rw [Tryd.params9] at ht
        have hm : t ∈ [3, 25, 3] := by simpa using Array.mem_of_getElem? ht
        have hall : ([3, 25, 3].all fun u => !Tryd.prog.wantsStandIn u) = true := by kernel_rfl
        exact (show Tryd.prog.wantsStandIn t = false by simpa using List.all_eq_true.1 hall t hm)⟩)
    (by kernel_rfl)
end Go.Proofs.YtkcmhojninhhoaaDoor.cartSaves
namespace Go.Proofs.YtkcmhojninhhoaaDoor
theorem cartSaves_card : Rows.CartSavesCardSaid := cartSaves.card
#print axioms cartSaves_card
end Go.Proofs.YtkcmhojninhhoaaDoor
