/- Cart: the ROM that a box makes. -/
import Derived.Test.YtojlappgmckokaaDoorCaC
namespace Go.Proofs.YtojlappgmckokaaDoor
open Go.Shelf Go.RowKit
set_option linter.unusedVariables false
variable {w w' W : World} {g n : Nat} {f : Nat → Int}
def markF (i : Nat) : Int := (7 * (i : Int) * (i : Int) + 13 * (i : Int) + 206) % 256
theorem putF_snoc (f h : Nat → Int) (o m : Nat) : putF (putF f o m h) (o + m) 1 (fun _ => h m) = putF f o (m + 1) h := by
  funext k
  unfold putF
  by_cases e : k = o + m
  · subst e
    rw [if_pos ⟨by omega, by omega⟩, if_pos ⟨by omega, by omega⟩, Nat.add_sub_cancel_left]
  · rw [if_neg (by omega)]
    by_cases e2 : o ≤ k ∧ k < o + m
    · rw [if_pos e2, if_pos ⟨e2.1, by omega⟩]
    · rw [if_neg e2, if_neg (by omega)]
theorem putF_none (f h : Nat → Int) (o : Nat) : putF f o 0 h = f := by
  funext k
  unfold putF
  rw [if_neg (by omega)]
theorem markW {j : Nat} (h : j < 48) : wrap64 (wrap64 (wrap64 (7 * (j : Int) * (j : Int)) + 13 * (j : Int)) + 206) % 256 = markF j := by
  have key : ∀ n : Fin 48, wrap64 (wrap64 (wrap64 (7 * ((n.val : Nat) : Int) * ((n.val : Nat) : Int)) + 13 * ((n.val : Nat) : Int)) + 206) % 256 = markF n.val := by decide +kernel
  exact key ⟨j, h⟩
/-- the ROM, but for its sum -/
def baseF (ty rc rm sd : Int) : Nat → Int :=
  putF (putF (putF (putF (putF (putF (putF (putF (fun k => byteF k sd) 260 48 markF) 308 15 (fun _ => 0)) 308 1 (fun _ => 65 + pickI sd 26)) 309 1 (fun _ => 98)) 323 1 (fun _ => 0)) 327 1 (fun _ => ty % 256)) 328 1 (fun _ => rc % 256)) 329 1 (fun _ => rm % 256)
def romF (ty rc rm sd : Int) : Nat → Int := putF (baseF ty rc rm sd) 333 1 (fun _ => (231 - sig (baseF ty rc rm sd) 25) % 256)
theorem putF_byte {f h : Nat → Int} {o m : Nat} (h1 : ∀ k, 0 ≤ f k ∧ f k ≤ 255) (h2 : ∀ k, 0 ≤ h k ∧ h k ≤ 255) : ∀ k, 0 ≤ putF f o m h k ∧ putF f o m h k ≤ 255 := fun k => by
  unfold putF
  split
  · exact h2 _
  · exact h1 _
theorem mod_byte (x : Int) : 0 ≤ x % 256 ∧ x % 256 ≤ 255 := by omega
theorem markF_byte (i : Nat) : 0 ≤ markF i ∧ markF i ≤ 255 := mod_byte _
theorem baseF_byte (ty rc rm sd : Int) : ∀ k, 0 ≤ baseF ty rc rm sd k ∧ baseF ty rc rm sd k ≤ 255 := by
  have p1 := pickI_lo sd 26 (by decide)
  have p2 := pickI_hi sd 26 (by decide)
  exact putF_byte (putF_byte (putF_byte (putF_byte (putF_byte (putF_byte (putF_byte (putF_byte (fun k => ⟨byteF_lo k sd, byteF_hi k sd⟩) markF_byte) (fun _ => by omega)) (fun _ => by omega)) (fun _ => by omega)) (fun _ => by omega)) (fun _ => mod_byte _)) (fun _ => mod_byte _)) (fun _ => mod_byte _)
theorem romF_byte (ty rc rm sd : Int) : ∀ k, 0 ≤ romF ty rc rm sd k ∧ romF ty rc rm sd k ≤ 255 := putF_byte (baseF_byte ty rc rm sd) (fun _ => mod_byte _)
def boxV (ty rc rm sd : Int) : Value := .agg #[.int .i64 ty, .int .i64 rc, .int .i64 rm, .int .i64 sd, .int .i64 0, .slice none 0 0, .slice none 0 0, .bool false]
/-- a box in memory -/
def boxC (ty rc rm sd : Int) : Array Value := #[.int .i64 ty, .int .i64 rc, .int .i64 rm, .int .i64 sd, .int .i64 0, .slice none 0 0, .slice none 0 0, .bool false]
structure Mk (W2 : World) (bb g N : Nat) (ty rc rm sd : Int) (f : Nat → Int) (w : World) : Prop where
  fr : Fr g W2 w
  by' : By w g N f
  bx : w.heap[bb]? = some (.cells (boxC ty rc rm sd) 27 (0, 0))
theorem Mk.set {W2 : World} {bb N : Nat} {ty rc rm sd x : Int} (h : Mk W2 bb g N ty rc rm sd f w) (hb : bb ≠ g) (i : Nat) (hi : i < N) : Mk W2 bb g N ty rc rm sd (putF f i 1 (fun _ => x)) (w.setCell ⟨g, i, none⟩ (.int .u8 x)) := by
  have fr : Fr g w (w.setCell ⟨g, i, none⟩ (.int .u8 x)) := (Fr.refl g w).setCell
  exact ⟨h.fr.trans fr, h.by'.set i hi x, (fr.block bb (heap_at h.bx) hb).trans h.bx⟩
set_option maxRecDepth 100000 in
set_option maxHeartbeats 1000000 in
theorem rom_any {ty rc rm sd : Int} {c N : Nat} (hN : N = 32768 * 2 ^ c) (i1 : I64 ty) (i2 : I64 rc) (i3 : I64 rm) (i4 : I64 sd) (hc : pickI rc 7 = (c : Int)) : Calls Tryd.prog 12 #[boxV ty rc rm sd] W fun e w' => ∃ g, e = .returned (.slice (some ⟨g, 0, none⟩) N N) ∧ W.heap.size ≤ g ∧ By w' g N (romF ty rc rm sd) ∧ Up W w' := by
  have c6 := pickI_hi rc 7 (by decide)
  have HP : Hid (∀ w, Calls Tryd.prog 14 #[.int .i64 rc, .int .i64 7] w fun e w' => e = .returned (.int .i64 (c : Int)) ∧ w' = w) := fun w => by rw [← hc]; exact pick_any rc 7 w i2 (by decide) (by decide)
  have HP26 : Hid (∀ w, Calls Tryd.prog 14 #[.int .i64 sd, .int .i64 26] w fun e w' => e = .returned (.int .i64 (pickI sd 26)) ∧ w' = w) := fun w => pick_any sd 26 w i4 (by decide) (by decide)
  obtain ⟨n1, n2, eN⟩ : 32768 ≤ N ∧ N ≤ 2097152 ∧ wrap64 ((32768 : Int) * 2 ^ c) = (N : Int) := by
    have : c = 0 ∨ c = 1 ∨ c = 2 ∨ c = 3 ∨ c = 4 ∨ c = 5 ∨ c = 6 := by omega
    rcases this with rfl | rfl | rfl | rfl | rfl | rfl | rfl <;> subst hN <;> decide +kernel
  have hmk : ∀ w : World, (Instr.makeSlice 24 (.int .i64 (N : Int)) (.int .i64 (N : Int))).run Tryd.prog w = .ok (.slice (some ⟨w.heap.size, 0, none⟩) N N) (w.alloc (.cells (madeCells #[.int .u8 0] N) 5)) := fun w => mkB w N (by omega)
  have HBA : Hid (∀ i : Nat, i < N → ∀ w, Calls Tryd.prog 31 #[.int .i64 (i : Int), .int .i64 sd] w fun e w' => e = .returned (.int .u8 (byteF i sd)) ∧ w' = w) := fun i hi w => byteAt_any (by omega) i4
  have p1 := pickI_lo sd 26 (by decide)
  have p2 := pickI_hi sd 26 (by decide)
  have c7 : c ≤ 6 := by omega
  clear hN hc i1 i2 i3 i4 c6
  unfold boxV
  go_enter Tryd.func12, Tryd.ntmps12
  go_wp2_with fail
  refine (HP.out _).mono ?_
  rintro e w' ⟨rfl, hw'⟩
  obtain rfl := hw'.symm
  clear hw'
  go_wp2_with fail
  have M0 : Mk ((W.alloc (.cells (boxC ty rc rm sd) 27)).alloc (.cells (madeCells #[.int .u8 0] N) 5)) W.heap.size (W.heap.size + 1) N ty rc rm sd (putF (fun _ => 0) 0 0 (fun k => byteF k sd)) ((W.alloc (.cells (boxC ty rc rm sd) 27)).alloc (.cells (madeCells #[.int .u8 0] N) 5)) := by
    have hz : (W.alloc (.cells (boxC ty rc rm sd) 27)).heap.size = W.heap.size + 1 := by simp
    have hb := made_by (W.alloc (.cells (boxC ty rc rm sd) 27)) N 5
    rw [hz] at hb
    rw [putF_none]
    exact ⟨Fr.refl _ _, hb, (((Up.refl _).alloc _).block _ (by rw [hz]; omega)).trans (heap_alloc_new W _)⟩
  have HM0 : Hid (Mk ((W.alloc (.cells (boxC ty rc rm sd) 27)).alloc (.cells (madeCells #[.int .u8 0] N) 5)) W.heap.size (W.heap.size + 1) N ty rc rm sd (putF (fun _ => 0) 0 0 (fun k => byteF k sd)) ((W.alloc (.cells (boxC ty rc rm sd) 27)).alloc (.cells (madeCells #[.int .u8 0] N) 5))) := M0
  have HU : Hid (Up W ((W.alloc (.cells (boxC ty rc rm sd) 27)).alloc (.cells (madeCells #[.int .u8 0] N) 5))) := ((Up.refl W).alloc _).alloc _
  clear M0
  unfold boxC at HM0 HU
  generalize World.alloc (World.alloc W _) _ = W2 at HM0 HU ⊢
  generalize hbb : W.heap.size = bb at HM0 ⊢
  rw [eN]
  clear eN
  go_loopw [5] (fun I wr => ∃ i : Nat, i ≤ N ∧ I = .int .i64 (i : Int) ∧ Hid (Mk W2 bb (bb + 1) N ty rc rm sd (putF (fun _ => 0) 0 i (fun k => byteF k sd)) wr)) (fun I _ => N - (intOf I).toNat)
  case atStart => exact ⟨0, Nat.zero_le _, rfl, HM0⟩
  case round =>
    obtain ⟨i, hi, rfl, HM⟩ := hrel
    clear HM0
    by_cases hlt : i < N
    · have e1 : (i : Int) < (N : Int) := by omega
      have kb : wr.cell? ⟨bb, 3, none⟩ = some (.int .i64 sd) := heap_cell HM.out.bx rfl
      have kc := HM.out.by'.cell i hlt
      have kf := HM.out.by'.fz i
      go_wp2_with fail
      refine (HBA.out i hlt _).mono ?_
      rintro e w' ⟨rfl, hw'⟩
      obtain rfl := hw'.symm
      clear hw' kb
      have HN : Hid (Mk W2 bb (bb + 1) N ty rc rm sd (putF (fun _ => 0) 0 (i + 1) (fun k => byteF k sd)) (wr.setCell ⟨bb + 1, i, none⟩ (.int .u8 (byteF i sd)))) := by
        have h := HM.out.set (x := byteF i sd) (by omega) i hlt
        have e := putF_snoc (fun _ => 0) (fun k => byteF k sd) 0 i
        rw [Nat.zero_add] at e
        rw [e] at h
        exact h
      clear HM
      go_wp2_with fail
      go_round
      case rel => exact ⟨i + 1, by omega, by go_num, HN⟩
      case measure => simp [intOf]; omega
    · have e1 : ¬ (i : Int) < (N : Int) := by omega
      obtain rfl : i = N := by omega
      have HM1 : Hid (Mk W2 bb (bb + 1) i ty rc rm sd (fun k => byteF k sd) wr) := ⟨HM.out.fr, HM.out.by'.congr (fun k hk => putF_in _ _ (Nat.zero_le _) (by omega)), HM.out.bx⟩
      have kb : wr.cell? ⟨bb, 7, none⟩ = some (.bool false) := heap_cell HM.out.bx rfl
      clear HM
      go_wp2_with fail
      clear kb
      go_loopw [6] (fun I wr => ∃ j : Nat, j ≤ 48 ∧ I = .int .i64 (j : Int) ∧ Hid (Mk W2 bb (bb + 1) i ty rc rm sd (putF (fun k => byteF k sd) 260 j markF) wr)) (fun I _ => 48 - (intOf I).toNat)
      case atStart => exact ⟨0, Nat.zero_le _, rfl, by rw [putF_none]; exact HM1⟩
      case round =>
        obtain ⟨j, hj, rfl, HM⟩ := hrel
        clear HM1
        by_cases hlt : j < 48
        · have e2 : (j : Int) < 48 := by omega
          have kc := HM.out.by'.cell (260 + j) (by omega)
          have kf := HM.out.by'.fz (260 + j)
          have e3 : (260 : Int) + (j : Int) < (i : Int) := by omega
          have HN : Hid (Mk W2 bb (bb + 1) i ty rc rm sd (putF (fun k => byteF k sd) 260 (j + 1) markF) (wr.setCell ⟨bb + 1, 260 + j, none⟩ (.int .u8 (wrap64 (wrap64 (wrap64 (7 * (j : Int) * (j : Int)) + 13 * (j : Int)) + 206) % 256)))) := by
            have h := HM.out.set (x := markF j) (by omega) (260 + j) (by omega)
            rw [putF_snoc (fun k => byteF k sd) markF 260 j] at h
            rw [markW hlt]
            exact h
          clear HM
          go_wp2_with fail
          go_round
          case rel => exact ⟨j + 1, by omega, by go_num, HN⟩
          case measure => simp [intOf]; omega
        · have e2 : ¬ (j : Int) < 48 := by omega
          obtain rfl : j = 48 := by omega
          go_wp2_with fail
          go_loopw [7] (fun I wr => ∃ j : Nat, j ≤ 15 ∧ I = .int .i64 ((308 + j : Nat) : Int) ∧ Hid (Mk W2 bb (bb + 1) i ty rc rm sd (putF (putF (fun k => byteF k sd) 260 48 markF) 308 j (fun _ => 0)) wr)) (fun I _ => 323 - (intOf I).toNat)
          case atStart => exact ⟨0, Nat.zero_le _, rfl, by rw [putF_none]; exact HM⟩
          case round =>
            obtain ⟨l, hl, rfl, HL⟩ := hrel
            clear HM
            by_cases hlt : l < 15
            · have e3 : ((308 + l : Nat) : Int) < 323 := by omega
              have e4 : ((308 + l : Nat) : Int) < (i : Int) := by omega
              have kc := HL.out.by'.cell (308 + l) (by omega)
              have kf := HL.out.by'.fz (308 + l)
              have HN : Hid (Mk W2 bb (bb + 1) i ty rc rm sd (putF (putF (fun k => byteF k sd) 260 48 markF) 308 (l + 1) (fun _ => 0)) (wr.setCell ⟨bb + 1, 308 + l, none⟩ (.int .u8 0))) := by
                have h := HL.out.set (x := 0) (by omega) (308 + l) (by omega)
                rw [putF_snoc (putF (fun k => byteF k sd) 260 48 markF) (fun _ => 0) 308 l] at h
                exact h
              clear HL
              go_wp2_with fail
              go_round
              case rel => exact ⟨l + 1, by omega, by go_num, HN⟩
              case measure => simp [intOf]; omega
            · have e3 : ¬ ((308 + l : Nat) : Int) < 323 := by omega
              obtain rfl : l = 15 := by omega
              have kb3 : wr.cell? ⟨bb, 3, none⟩ = some (.int .i64 sd) := heap_cell HL.out.bx rfl
              have HL1 : Hid (Mk W2 bb (bb + 1) i ty rc rm sd (baseF ty rc rm sd) ((((((wr.setCell ⟨bb + 1, 308, none⟩ (.int .u8 (65 + pickI sd 26))).setCell ⟨bb + 1, 309, none⟩ (.int .u8 98)).setCell ⟨bb + 1, 323, none⟩ (.int .u8 0)).setCell ⟨bb + 1, 327, none⟩ (.int .u8 (ty % 256))).setCell ⟨bb + 1, 328, none⟩ (.int .u8 (rc % 256))).setCell ⟨bb + 1, 329, none⟩ (.int .u8 (rm % 256)))) :=
                (((((HL.out.set (x := 65 + pickI sd 26) (by omega) 308 (by omega)).set (x := 98) (by omega) 309 (by omega)).set (x := 0) (by omega) 323 (by omega)).set (x := ty % 256) (by omega) 327 (by omega)).set (x := rc % 256) (by omega) 328 (by omega)).set (x := rm % 256) (by omega) 329 (by omega)
              have kf : ∀ k, wr.frozen? ⟨bb + 1, k, none⟩ = false := HL.out.by'.fz
              obtain ⟨d0, k0⟩ : ∃ d, wr.cell? ⟨bb + 1, 308, none⟩ = some d := ⟨_, HL.out.by'.cell 308 (by omega)⟩
              obtain ⟨d1, k1⟩ : ∃ d, wr.cell? ⟨bb + 1, 309, none⟩ = some d := ⟨_, HL.out.by'.cell 309 (by omega)⟩
              obtain ⟨d2, k2⟩ : ∃ d, wr.cell? ⟨bb + 1, 323, none⟩ = some d := ⟨_, HL.out.by'.cell 323 (by omega)⟩
              obtain ⟨d3, k3⟩ : ∃ d, wr.cell? ⟨bb + 1, 327, none⟩ = some d := ⟨_, HL.out.by'.cell 327 (by omega)⟩
              obtain ⟨d4, k4⟩ : ∃ d, wr.cell? ⟨bb + 1, 328, none⟩ = some d := ⟨_, HL.out.by'.cell 328 (by omega)⟩
              obtain ⟨d5, k5⟩ : ∃ d, wr.cell? ⟨bb + 1, 329, none⟩ = some d := ⟨_, HL.out.by'.cell 329 (by omega)⟩
              have kb0 : wr.cell? ⟨bb, 0, none⟩ = some (.int .i64 ty) := heap_cell HL.out.bx rfl
              have kb1 : wr.cell? ⟨bb, 1, none⟩ = some (.int .i64 rc) := heap_cell HL.out.bx rfl
              have kb2 : wr.cell? ⟨bb, 2, none⟩ = some (.int .i64 rm) := heap_cell HL.out.bx rfl
              have kb5 : wr.cell? ⟨bb, 5, none⟩ = some (.slice none 0 0) := heap_cell HL.out.bx rfl
              have kb7 : wr.cell? ⟨bb, 7, none⟩ = some (.bool false) := heap_cell HL.out.bx rfl
              clear HL
              go_wp2_with fail
              refine (HP26.out _).mono ?_
              rintro e w' ⟨rfl, hw'⟩
              obtain rfl := hw'.symm
              clear hw' HP HP26 HBA hmk
              go_wp2_with fail
              clear kf k0 k1 k2 k3 k4 k5 kb0 kb1 kb2 kb3 kb5 kb7
              generalize World.setCell (World.setCell _ _ _) ⟨bb + 1, 329, none⟩ _ = wz at HL1 ⊢
              have kb5 : wz.cell? ⟨bb, 5, none⟩ = some (.slice none 0 0) := heap_cell HL1.out.bx rfl
              have kb7 : wz.cell? ⟨bb, 7, none⟩ = some (.bool false) := heap_cell HL1.out.bx rfl
              go_loopw [8] (fun I wt => wt = wz ∧ I = .int .i64 0) (fun _ _ => 0)
              case atStart => exact ⟨rfl, rfl⟩
              case round =>
                obtain ⟨hww, rfl⟩ := hrel
                subst hww
                have HS : Hid _ := lawSum_any (c := i) HL1.out.by' (by omega) (Nat.le_refl _) (by omega) (baseF_byte ty rc rm sd)
                have kf := HL1.out.by'.fz 333
                have kc := HL1.out.by'.cell 333 (by omega)
                have HE : Hid (Mk W2 bb (bb + 1) i ty rc rm sd (romF ty rc rm sd) (wr.setCell ⟨bb + 1, 333, none⟩ (.int .u8 ((231 - sig (baseF ty rc rm sd) 25) % 256)))) := HL1.out.set (by omega) 333 (by omega)
                clear HL1
                go_wp2_with fail
                refine Calls.mono HS.out ?_
                rintro e w' ⟨rfl, hw'⟩
                obtain rfl := hw'.symm
                clear hw' HS
                generalize (231 - sig (baseF ty rc rm sd) 25) % 256 = SM at *
                go_wp2_with fail
                go_ret
                exact ⟨bb + 1, by first | rfl | (simp; done), by omega, HE.out.by', Fr.up HU.out (by omega) HE.out.fr⟩
end Go.Proofs.YtojlappgmckokaaDoor
