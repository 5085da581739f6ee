/- The picture's block when it is new. -/
import Derived.Test.YtmjfccdhjhkocaaPxA
namespace Go.Proofs.Ytmjfccdhjhkocaa
open Go.RowKit
set_option linter.unusedVariables false
def isZ (v : Value) : Bool := match v with | .int .u8 n => n == 0 | _ => false
theorem isZ_eq {v : Value} (h : isZ v = true) : v = .int .u8 0 := by
  unfold isZ at h
  split at h
  · have := eq_of_beq h
    rw [this]
  · cases h
theorem zc_a : ((Try.zeroCells74.toList.take 8364).all isZ) = true := by kernel_rfl
theorem zc_b : (Try.zeroCells74.toList.drop 8364).take 3 = [.int .i64 0, .bool false, .int .i64 0] := by kernel_rfl
theorem zc_c : ((Try.zeroCells74.toList.drop 8367).all isZ) = true := by kernel_rfl
theorem zc_len : Try.zeroCells74.toList.length = 54447 := by rw [Array.length_toList]; exact zc_size
theorem zc_cell (k : Nat) (hk : k < 54447) : Try.zeroCells74[k]? = some (zeroPic.cell k) := by
  rw [← Array.getElem?_toList]
  have ha := zc_a
  have hb := zc_b
  have hc := zc_c
  have hl := zc_len
  generalize Try.zeroCells74.toList = L at *
  have hsome : L[k]? = some (L[k]'(by omega)) := List.getElem?_eq_getElem (by omega)
  by_cases h1 : k < 8364
  · have hm : (L[k]'(by omega)) ∈ L.take 8364 := by
      have : (L.take 8364)[k]? = some (L[k]'(by omega)) := by rw [List.getElem?_take_of_lt h1]; exact hsome
      exact List.mem_of_getElem? this
    have := isZ_eq (List.all_eq_true.1 ha _ hm)
    rw [hsome, this]
    unfold Pic.cell zeroPic
    dsimp only
    by_cases a : k < 8192
    · rw [if_pos a]
    · rw [if_neg a]
      by_cases a2 : k < 8352
      · rw [if_pos a2]
      · rw [if_neg a2, if_pos h1]
  · by_cases h2 : k < 8367
    · have e : ((L.drop 8364).take 3)[k - 8364]? = L[k]? := by
        rw [List.getElem?_take_of_lt (by omega), List.getElem?_drop, show 8364 + (k - 8364) = k by omega]
      rw [← e, hb]
      have : k = 8364 ∨ k = 8365 ∨ k = 8366 := by omega
      rcases this with rfl | rfl | rfl <;> rfl
    · have hm : (L[k]'(by omega)) ∈ L.drop 8367 := by
        have : (L.drop 8367)[k - 8367]? = some (L[k]'(by omega)) := by rw [List.getElem?_drop, show 8367 + (k - 8367) = k by omega]; exact hsome
        exact List.mem_of_getElem? this
      have := isZ_eq (List.all_eq_true.1 hc _ hm)
      rw [hsome, this]
      unfold Pic.cell zeroPic
      dsimp only
      rw [if_neg (by omega), if_neg (by omega), if_neg (by omega), if_neg (by omega), if_neg (by omega), if_neg (by omega)]
      split <;> rfl
/-- cells that are a picture's -/
structure CsOk (cs : Array Value) (p : Pic) : Prop where
  size : cs.size = 54447
  cell : ∀ k, k < 54447 → cs[k]? = some (p.cell k)
theorem CsOk.set {cs : Array Value} {p q : Pic} (h : CsOk cs p) (k : Nat) (v : Value) (e : ∀ j, j < 54447 → (if j = k then v else p.cell j) = q.cell j) : CsOk (cs.setIfInBounds k v) q := by
  refine ⟨by simp [h.size], fun j hj => ?_⟩
  have hs := h.size
  rw [← e j hj, Array.getElem?_setIfInBounds]
  by_cases hjk : j = k
  · subst hjk
    rw [if_pos rfl, if_pos (by omega), if_pos rfl]
  · rw [if_neg (fun e => hjk e.symm), if_neg hjk]
    exact h.cell j hj
/-- one byte of memory, of the table, of the registers -/
def Pic.setV (p : Pic) (i : Nat) (x : Int) : Pic := { p with vr := fun n => if n = i then x else p.vr n }
def Pic.setO (p : Pic) (i : Nat) (x : Int) : Pic := { p with oa := fun n => if n = i then x else p.oa n }
def Pic.setR (p : Pic) (i : Nat) (x : Int) : Pic := { p with rg := fun n => if n = i then x else p.rg n }
theorem Pic.cellV (p : Pic) (i : Nat) (hi : i < 8192) (x : Int) (j : Nat) : (if j = i then .int .u8 x else p.cell j) = (p.setV i x).cell j := by
  unfold Pic.cell Pic.setV
  dsimp only
  by_cases e : j = i
  · subst e
    rw [if_pos rfl, if_pos hi, if_pos rfl]
  · rw [if_neg e]
    by_cases h : j < 8192
    · rw [if_pos h, if_pos h, if_neg e]
    · rw [if_neg h, if_neg h]
theorem Pic.cellO (p : Pic) (i : Nat) (hi : i < 160) (x : Int) (j : Nat) : (if j = 8192 + i then .int .u8 x else p.cell j) = (p.setO i x).cell j := by
  unfold Pic.cell Pic.setO
  dsimp only
  by_cases e : j = 8192 + i
  · subst e
    rw [if_pos rfl, if_neg (by omega), if_pos (by omega), if_pos (by omega)]
  · rw [if_neg e]
    by_cases h : j < 8192
    · rw [if_pos h, if_pos h]
    · rw [if_neg h, if_neg h]
      by_cases h2 : j < 8352
      · rw [if_pos h2, if_pos h2, if_neg (by omega)]
      · rw [if_neg h2, if_neg h2]
theorem Pic.cellR (p : Pic) (i : Nat) (hi : i < 12) (x : Int) (j : Nat) : (if j = 8352 + i then .int .u8 x else p.cell j) = (p.setR i x).cell j := by
  unfold Pic.cell Pic.setR
  dsimp only
  by_cases e : j = 8352 + i
  · subst e
    rw [if_pos rfl, if_neg (by omega), if_neg (by omega), if_pos (by omega), if_pos (by omega)]
  · rw [if_neg e]
    by_cases h : j < 8192
    · rw [if_pos h, if_pos h]
    · rw [if_neg h, if_neg h]
      by_cases h2 : j < 8352
      · rw [if_pos h2, if_pos h2]
      · rw [if_neg h2, if_neg h2]
        by_cases h3 : j < 8364
        · rw [if_pos h3, if_pos h3, if_neg (by omega)]
        · rw [if_neg h3, if_neg h3]
def newPic : Pic := (((((((((((zeroPic.setR 0 145).setR 1 0).setR 2 0).setR 3 0).setR 4 0).setR 5 0).setR 6 0).setR 7 252).setR 8 255).setR 9 255).setR 10 0).setR 11 0
set_option maxRecDepth 100000 in
set_option maxHeartbeats 1000000 in
theorem newP_any (W : World) : Calls Try.prog 17 #[] W fun e w' => e = .returned (.pointer (some ⟨W.heap.size, 0, none⟩)) ∧ PxAt w' W.heap.size newPic ∧ Up W w' := by
  have HZ : Hid (CsOk Try.zeroCells74 zeroPic) := ⟨zc_size, zc_cell⟩
  go_enter Try.func17, Try.ntmps17
  go_wp2_with fail
  go_ret
  have h := (((((((((((HZ.out.set 8352 _ (fun j _ => Pic.cellR _ 0 (by decide) 145 j)).set 8353 _ (fun j _ => Pic.cellR _ 1 (by decide) 0 j)).set 8354 _ (fun j _ => Pic.cellR _ 2 (by decide) 0 j)).set 8355 _ (fun j _ => Pic.cellR _ 3 (by decide) 0 j)).set 8356 _ (fun j _ => Pic.cellR _ 4 (by decide) 0 j)).set 8357 _ (fun j _ => Pic.cellR _ 5 (by decide) 0 j)).set 8358 _ (fun j _ => Pic.cellR _ 6 (by decide) 0 j)).set 8359 _ (fun j _ => Pic.cellR _ 7 (by decide) 252 j)).set 8360 _ (fun j _ => Pic.cellR _ 8 (by decide) 255 j)).set 8361 _ (fun j _ => Pic.cellR _ 9 (by decide) 255 j)).set 8362 _ (fun j _ => Pic.cellR _ 10 (by decide) 0 j)).set 8363 _ (fun j _ => Pic.cellR _ 11 (by decide) 0 j)
  exact ⟨rfl, ⟨_, heap_alloc_new W _, h.size, h.cell⟩, (Up.refl W).alloc _⟩
end Go.Proofs.Ytmjfccdhjhkocaa
