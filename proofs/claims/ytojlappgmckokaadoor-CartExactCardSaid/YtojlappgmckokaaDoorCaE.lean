/- Cart: the tables; rowOf. -/
import Derived.Test.YtojlappgmckokaaDoorCaD
import Derived.Test.YtojlappgmckokaaDoorTabL
namespace Go.Proofs.YtojlappgmckokaaDoor
open Go.Shelf Go.RowKit
set_option linter.unusedVariables false
variable {w w' W : World} {g n : Nat} {f : Nat → Int}
theorem run_index_agg {P : Program} (t e : TypeId) (n m : Nat) (cs : Array Value) (k : IntKind) (i : Int) (d : TypeDesc) (w : World) (h : P.underlying t = some (.array n e)) (h0 : 0 ≤ i) (h1 : i < (n : Int))
    (hu : P.underlying e = some d) (hd : (match d with | .struct _ | .array _ _ => true | _ => false) = true) (hi : (P.info? e).map (·.size) = some m) :
    (Instr.index t (.agg cs) (.int k i)).run P w = .ok (.agg (cs.extract (i.toNat * m) (i.toNat * m + m))) w := by
  have ha : (isAgg e).run P w = .ok true w := by
    cases d <;> simp_all [isAgg, run_underlying hu]
  have hs : (sizeOf e).run P w = .ok m w := by
    obtain ⟨x, hx, hm⟩ := Option.map_eq_some_iff.1 hi
    simp [sizeOf, typeInfo, hx, hm]
  simp [Instr.index, run_underlying h, asIntOf, h0, h1, part, ha, hs, go_sem]
theorem wpList_index_agg {P : Program} {ops : Array Oper} {rest : List Oper} {o : Oper} {a : Act} {w : World} {Q : Exit → Act → World → Prop} (hgd : o.guard = none) (t : TypeId) (x y : Operand) (ho : o.op = .index t x y)
    (e : TypeId) (n m : Nat) (cs R : Array Value) (k : IntKind) (i : Int) (d : TypeDesc) (hx : a.eval x = .agg cs) (hy : a.eval y = .int k i)
    (h : P.underlying t = some (.array n e)) (h0 : 0 ≤ i) (h1 : i < (n : Int)) (hu : P.underlying e = some d) (hd : (match d with | .struct _ | .array _ _ => true | _ => false) = true) (hi : (P.info? e).map (·.size) = some m)
    (hR : cs.extract (i.toNat * m) (i.toNat * m + m) = R) (hh : wpList P ops Q rest (a.put o.dst (.agg R)) w) : wpList P ops Q (o :: rest) a w := by
  refine wpList_plain hgd fun K hK => ?_
  subst hR
  unfold Oper.wp execOp
  simp only [ho, hx, hy, Sem.run_bind, run_index_agg t e n m cs k i d w h h0 h1 hu hd hi, Result.andThen_ok, Sem.run_pure]
  exact hK _ _ hh
/-- a row: kind, mapper, banks, codes from and to, battery -/
structure Rw where
  kind : Nat
  mapper : Nat
  banks : Nat
  lo : Nat
  hi : Nat
  bat : Bool
def Rw.cells (r : Rw) : List Value := [.int .u8 (r.kind : Int), .int .i64 (r.mapper : Int), .int .i64 (r.banks : Int), .int .u8 (r.lo : Int), .int .u8 (r.hi : Int), .bool r.bat]
def rowsT : List Rw := [⟨0, 0, 2, 0, 0, false⟩, ⟨8, 0, 2, 2, 2, false⟩, ⟨9, 0, 2, 2, 2, true⟩, ⟨1, 1, 128, 0, 0, false⟩, ⟨2, 1, 128, 2, 3, false⟩, ⟨3, 1, 128, 2, 3, true⟩, ⟨5, 2, 16, 0, 0, false⟩, ⟨6, 2, 16, 0, 0, true⟩, ⟨17, 3, 128, 0, 0, false⟩, ⟨18, 3, 128, 2, 3, false⟩, ⟨19, 3, 128, 2, 3, true⟩, ⟨25, 5, 128, 0, 0, false⟩, ⟨26, 5, 128, 2, 5, false⟩, ⟨27, 5, 128, 2, 5, true⟩]
def rowsV : List Value := rowsT.flatMap Rw.cells
def ramsV : List Value := [.int .i64 0, .int .i64 0, .int .i64 8192, .int .i64 32768, .int .i64 131072, .int .i64 65536]
def typesV : List Int := [0, 1, 5, 17, 25, 9, 3, 6, 19, 27]
structure Tb (w : World) : Prop where
  rows : w.rangeAt 1 0 rowsV
  rams : w.rangeAt 2 0 ramsV
/-- the law's own list of types -/
def Tys (w : World) : Prop := ∃ tb to tc, w.cell? ⟨0, 0, none⟩ = some (.slice (some ⟨tb, to, none⟩) 10 tc) ∧ 10 ≤ tc ∧ tc ≤ 9223372036854775807 ∧ ∀ (k : Nat) x, typesV[k]? = some x → w.cell? ⟨tb, to + k, none⟩ = some (.int .i64 x)
theorem cell_up {W w : World} {b o : Nat} {v : Value} (u : Up W w) (h : W.cell? ⟨b, o, none⟩ = some v) : w.cell? ⟨b, o, none⟩ = some v := (u.cell (World.block_lt_of_cell? _ _ h)).trans h
theorem range_up {W w : World} {b o : Nat} {l : List Value} (u : Up W w) (h : W.rangeAt b o l) : w.rangeAt b o l := fun k v hk => cell_up u (h k v hk)
theorem Tb.up (h : Tb w) (u : Up w w') : Tb w' := ⟨range_up u h.rows, range_up u h.rams⟩
theorem rows_ex : ∀ (i : Nat) (R : Rw), rowsT[i]? = some R → rowsV.toArray.extract (i * 6) (i * 6 + 6) = R.cells.toArray
  | 0, R, h => by cases h; rfl
  | 1, R, h => by cases h; rfl
  | 2, R, h => by cases h; rfl
  | 3, R, h => by cases h; rfl
  | 4, R, h => by cases h; rfl
  | 5, R, h => by cases h; rfl
  | 6, R, h => by cases h; rfl
  | 7, R, h => by cases h; rfl
  | 8, R, h => by cases h; rfl
  | 9, R, h => by cases h; rfl
  | 10, R, h => by cases h; rfl
  | 11, R, h => by cases h; rfl
  | 12, R, h => by cases h; rfl
  | 13, R, h => by cases h; rfl
  | i + 14, R, h => by cases h
def Rw.zero : Rw := ⟨0, 0, 0, 0, 0, false⟩
/-- what rowOf tells -/
def RowIs (k : Nat) (R : Rw) (b : Bool) : Prop := (b = true ∧ R ∈ rowsT ∧ R.kind = k) ∨ (b = false ∧ R = Rw.zero ∧ ∀ r ∈ rowsT, r.kind ≠ k)
def RowAns (W : World) (k : Nat) (e : Ending) (w' : World) : Prop := ∃ R b, e = .returned (.tuple #[.agg R.cells.toArray, .bool b]) ∧ RowIs k R b ∧ Up W w'
theorem rowsT_byte : ∀ r ∈ rowsT, r.kind ≤ 255 ∧ r.mapper ≤ 5 ∧ r.banks ≤ 128 ∧ r.lo ≤ 5 ∧ r.hi ≤ 5 := by decide
set_option maxRecDepth 100000 in
set_option maxHeartbeats 1000000 in
theorem rowOf_any {k : Nat} (h : Tb W) (hk : k ≤ 255) : Calls Tryd.prog 32 #[.int .u8 (k : Int)] W (RowAns W k) := by
  obtain ⟨V, hV⟩ : ∃ V, V = rowsV.toArray := ⟨_, rfl⟩
  have HV : Hid (∀ (i : Nat) (R : Rw), rowsT[i]? = some R → V.extract (i * 6) (i * 6 + 6) = R.cells.toArray) := by rw [hV]; exact rows_ex
  have HR : Hid (∀ w, Up W w → w.rangeAt 1 0 rowsV) := fun w u => range_up u h.rows
  have HVL : Hid (rowsV.toArray = V) := hV.symm
  have ua : Up W (W.alloc (.cells #[.int .u8 0, .int .i64 0, .int .i64 0, .int .u8 0, .int .u8 0, .bool false] 71)) := (Up.refl W).alloc _
  have HW : Hid (Up W (W.alloc (.cells #[.int .u8 0, .int .i64 0, .int .i64 0, .int .u8 0, .int .u8 0, .bool false] 71)) ∧ (W.alloc (.cells #[.int .u8 0, .int .i64 0, .int .i64 0, .int .u8 0, .int .u8 0, .bool false] 71)).heap[W.heap.size]? = some (.cells #[.int .u8 0, .int .i64 0, .int .i64 0, .int .u8 0, .int .u8 0, .bool false] 71 (0, 0))) := ⟨ua, heap_alloc_new W _⟩
  clear h hV ua
  go_enter Tryd.func32, Tryd.ntmps32
  go_wp2_with (refine wpList_load_mid rfl 103 _ rfl 1 0 rfl rowsV _ (HR.out _ HW.out.1) Tryd.underlying103 rfl (by kernel_rfl) ?_; rw [HVL.out]; clear HVL)
  generalize World.alloc W _ = W1 at HW ⊢
  generalize hrb : W.heap.size = rb at HW ⊢
  go_loopw [7] (fun I wr => ∃ i : Nat, i ≤ 14 ∧ I = .int .i64 (i : Int) ∧ Hid (Up W1 wr ∧ ∀ (j : Nat) r, j < i → rowsT[j]? = some r → r.kind ≠ k)) (fun I _ => 14 - (intOf I).toNat)
  case atStart => exact ⟨0, Nat.zero_le _, rfl, Up.refl _, fun j r hj => by omega⟩
  case round =>
    obtain ⟨i, hi, rfl, HI⟩ := hrel
    by_cases hlt : i < 14
    · have e1 : (i : Int) < 14 := by omega
      obtain ⟨R, hR⟩ : ∃ R, rowsT[i]? = some R := ⟨_, List.getElem?_eq_getElem hlt⟩
      have hex := HV.out i R hR
      have HRi : Hid (rowsT[i]? = some R) := hR
      have hb := rowsT_byte R (List.mem_of_getElem? hR)
      clear hR HV HR
      obtain ⟨kd, mp, bk, lo, hi', bt⟩ := R
      have HE : Hid (V.extract (i * 6) (i * 6 + 6) = #[.int .u8 (kd : Int), .int .i64 (mp : Int), .int .i64 (bk : Int), .int .u8 (lo : Int), .int .u8 (hi' : Int), .bool bt]) := hex
      clear hex
      have hb1 : kd ≤ 255 := hb.1
      clear hb
      have HZ : Hid (W1.heap[rb]? = some (.cells #[.int .u8 0, .int .i64 0, .int .i64 0, .int .u8 0, .int .u8 0, .bool false] 71 (0, 0))) := HW.out.2
      have hrl := heap_at HW.out.2
      have sz := HI.out.1.size
      by_cases hkd : kd = k
      · subst hkd
        have HQ : Hid (∀ w', Fr rb (wr.alloc (.cells #[.int .u8 (kd : Int), .int .i64 (mp : Int), .int .i64 (bk : Int), .int .u8 (lo : Int), .int .u8 (hi' : Int), .bool bt] 71)) w' → Up W w' ∧ RowIs kd ⟨kd, mp, bk, lo, hi', bt⟩ true) := fun w' fr => ⟨Fr.up (HW.out.1.trans (HI.out.1.alloc _)) (by omega) fr, Or.inl ⟨rfl, List.mem_of_getElem? HRi.out, rfl⟩⟩
        have HB : Hid ((wr.alloc (.cells #[.int .u8 (kd : Int), .int .i64 (mp : Int), .int .i64 (bk : Int), .int .u8 (lo : Int), .int .u8 (hi' : Int), .bool bt] 71)).heap[rb]? = some (.cells #[.int .u8 0, .int .i64 0, .int .i64 0, .int .u8 0, .int .u8 0, .bool false] 71 (0, 0))) := ((HI.out.1.alloc _).block rb hrl).trans HZ.out
        clear HI HW HRi HZ
        go_wp2_with (first
          | refine wpList_index_agg rfl 103 _ _ rfl 71 14 6 _ #[.int .u8 (kd : Int), .int .i64 (mp : Int), .int .i64 (bk : Int), .int .u8 (lo : Int), .int .u8 (hi' : Int), .bool bt] .i64 (i : Int) _ rfl rfl Tryd.underlying103 (by omega) (by omega) Tryd.underlying71 rfl (by kernel_rfl) (by rw [Int.toNat_natCast]; exact HE.out) ?_
          | refine wpList_store_rowTo rfl 71 _ _ rfl rfl rb #[.int .u8 (kd : Int), .int .i64 (mp : Int), .int .i64 (bk : Int), .int .u8 (lo : Int), .int .u8 (hi' : Int), .bool bt] rfl rfl 71 _ HB.out (by kernel_rfl) rfl (by simp [Value.oneCell']) ?_)
        have fr := (Fr.refl rb (wr.alloc (.cells #[.int .u8 (kd : Int), .int .i64 (mp : Int), .int .i64 (bk : Int), .int .u8 (lo : Int), .int .u8 (hi' : Int), .bool bt] 71))).setRow (cs := #[.int .u8 (kd : Int), .int .i64 (mp : Int), .int .i64 (bk : Int), .int .u8 (lo : Int), .int .u8 (hi' : Int), .bool bt])
        obtain ⟨g1, g2⟩ := HQ.out _ fr
        refine bodyPost_ret (v := .tuple #[.agg _, .bool true]) (results_row_tmp Tryd.results32 _ _ _ 71 _ (0, 0) _ rfl (setRow_heap _ _ _ _ _ _ HB.out) Tryd.underlying71 rfl (by kernel_rfl)) rfl ?_
        exact ⟨⟨kd, mp, bk, lo, hi', bt⟩, true, rfl, g2, g1⟩
      · have ek : ¬ (kd : Int) = (k : Int) := by omega
        have HN : Hid (Up W1 (wr.alloc (.cells #[.int .u8 (kd : Int), .int .i64 (mp : Int), .int .i64 (bk : Int), .int .u8 (lo : Int), .int .u8 (hi' : Int), .bool bt] 71)) ∧ ∀ (j : Nat) r, j < i + 1 → rowsT[j]? = some r → r.kind ≠ k) := ⟨HI.out.1.alloc _, fun j r hj hr => by
          by_cases e : j = i
          · subst e
            have h2 := HRi.out
            rw [hr] at h2
            injection h2 with h2
            rw [h2]
            exact hkd
          · exact HI.out.2 j r (by omega) hr⟩
        clear HI HRi
        go_wp2_with (refine wpList_index_agg rfl 103 _ _ rfl 71 14 6 _ #[.int .u8 (kd : Int), .int .i64 (mp : Int), .int .i64 (bk : Int), .int .u8 (lo : Int), .int .u8 (hi' : Int), .bool bt] .i64 (i : Int) _ rfl rfl Tryd.underlying103 (by omega) (by omega) Tryd.underlying71 rfl (by kernel_rfl) (by rw [Int.toNat_natCast]; exact HE.out) ?_)
        go_round
        case rel => exact ⟨i + 1, by omega, by go_num, HN⟩
        case measure => simp [intOf]; omega
    · have e1 : ¬ (i : Int) < 14 := by omega
      obtain rfl : i = 14 := by omega
      have hrl := heap_at HW.out.2
      have HB : Hid (wr.heap[rb]? = some (.cells #[.int .u8 0, .int .i64 0, .int .i64 0, .int .u8 0, .int .u8 0, .bool false] 71 (0, 0))) := (HI.out.1.block rb hrl).trans HW.out.2
      go_wp2_with (refine wpList_store_rowTo rfl 71 _ _ rfl rfl rb #[.int .u8 0, .int .i64 0, .int .i64 0, .int .u8 0, .int .u8 0, .bool false] rfl rfl 71 _ HB.out (by kernel_rfl) rfl (by simp [Value.oneCell']) ?_)
      have fr := (Fr.refl rb wr).setRow (cs := #[.int .u8 0, .int .i64 0, .int .i64 0, .int .u8 0, .int .u8 0, .bool false])
      refine bodyPost_ret (v := .tuple #[.agg _, .bool false]) (results_row_tmp Tryd.results32 _ _ _ 71 _ (0, 0) _ rfl (setRow_heap _ _ _ _ _ _ HB.out) Tryd.underlying71 rfl (by kernel_rfl)) rfl ?_
      refine ⟨Rw.zero, false, rfl, Or.inr ⟨rfl, rfl, fun r hr => ?_⟩, Fr.up (HW.out.1.trans HI.out.1) (by omega) fr⟩
      obtain ⟨j, hj⟩ := List.mem_iff_getElem?.1 hr
      exact HI.out.2 j r (by have := (List.getElem?_eq_some_iff.1 hj).1; exact this) hj
end Go.Proofs.YtojlappgmckokaaDoor
