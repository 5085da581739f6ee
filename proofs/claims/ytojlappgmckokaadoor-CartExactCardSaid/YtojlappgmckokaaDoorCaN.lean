/- Cart: registers. -/
import Derived.Test.YtojlappgmckokaaDoorCaM
namespace Go.Proofs.YtojlappgmckokaaDoor
open Go.Shelf Go.RowKit
set_option linter.unusedVariables false
set_option linter.unusedSimpArgs false
variable {w w' W : World} {b : Nat}
set_option maxRecDepth 100000 in
theorem oneIf_any (t : Bool) : Calls Tryd.prog 97 #[.bool t] W fun e w' => e = .returned (.int .u8 ((if t = true then 1 else 0 : Nat) : Int)) ∧ w' = W := by
  cases t
  all_goals
    go_enter Tryd.func97, Tryd.ntmps97
    go_wp2_with fail
    go_ret
    exact ⟨by first | rfl | (simp; done), rfl⟩
def onF (x : Nat) : Nat := if x % 16 = 10 then 1 else 0
def Mp.set (m : Mp) (a x : Nat) : Mp :=
  if m.kd = 1 then (if a / 8192 = 0 then { m with on := onF x } else if a / 8192 = 1 then { m with low := max (x % 32) 1 } else if a / 8192 = 2 then { m with pick := x % 4 } else { m with mode := x % 2 })
  else if m.kd = 2 then (if 16384 ≤ a then m else if a / 256 % 2 = 1 then { m with low := max (x % 16) 1 } else { m with on := onF x })
  else if m.kd = 3 then (if a / 8192 = 0 then { m with on := onF x } else if a / 8192 = 1 then { m with low := max (x % 128) 1 } else if a / 8192 = 2 then { m with pick := x % 16 } else m)
  else if m.kd = 5 then (if a / 4096 ≤ 1 then { m with on := if x = 10 then 1 else 0 } else if a / 4096 = 2 then { m with low := x } else if a / 4096 = 3 then { m with high := x % 2 } else if a / 4096 ≤ 5 then { m with pick := x % 16 } else m)
  else m
theorem and15 : ∀ x : Int, 0 ≤ x → x ≤ 255 → bits .and .u8 x 15 = x % 16 := byteAll (by decide +kernel)
theorem and31 : ∀ x : Int, 0 ≤ x → x ≤ 255 → bits .and .u8 x 31 = x % 32 := byteAll (by decide +kernel)
theorem and3 : ∀ x : Int, 0 ≤ x → x ≤ 255 → bits .and .u8 x 3 = x % 4 := byteAll (by decide +kernel)
theorem and1 : ∀ x : Int, 0 ≤ x → x ≤ 255 → bits .and .u8 x 1 = x % 2 := byteAll (by decide +kernel)
theorem and127 : ∀ x : Int, 0 ≤ x → x ≤ 255 → bits .and .u8 x 127 = x % 128 := byteAll (by decide +kernel)
/-- behind a write to a register -/
def SetAns (W : World) (b : Nat) (ty : TypeId) (l : List Value) (e : Ending) (w' : World) : Prop := e = .returned (.tuple #[]) ∧ w'.heap[b]? = some (.cells l.toArray ty (0, 0)) ∧ Fr b W w'
theorem max_cast (x : Nat) (y : Int) (h : y = (x : Int)) : max y 1 = ((max x 1 : Nat) : Int) := by subst h; omega
theorem set_done {cs : Array Value} {ty : TypeId} {l : List Value} {k : Nat} {x y : Value} (h : W.heap[b]? = some (.cells cs ty (0, 0))) (hl : cs.setIfInBounds k y = l.toArray) (e : x = y) : SetAns W b ty l (.returned (.tuple #[])) (W.setCell ⟨b, k, none⟩ x) := by
  subst e
  refine ⟨rfl, ?_, (Fr.refl b W).setCell⟩
  rw [heap_setCell_same W b k _ _ _ h, hl]
theorem int8 {x y : Int} (h : x = y) : Value.int .u8 x = .int .u8 y := by rw [h]
set_option maxRecDepth 100000 in
set_option maxHeartbeats 1000000 in
theorem set_1 {on low high pick mode a x : Nat} (h : W.heap[b]? = some (.cells #[.int .u8 ((on : Nat) : Int), .int .u8 ((low : Nat) : Int), .int .u8 ((pick : Nat) : Int), .int .u8 ((mode : Nat) : Int)] 110 (0, 0))) (ha : a < 32768) (hx : x ≤ 255) : Calls Tryd.prog 95 #[.pointer (some ⟨b, 0, none⟩), .int .i64 (a : Int), .int .u8 (x : Int)] W (SetAns W b 110 (Mp.set ⟨1, on, low, high, pick, mode⟩ a x).cells) := by
  have k0 : W.cell? ⟨b, 0, none⟩ = some (.int .u8 (on : Int)) := heap_cell h rfl
  have k1 : W.cell? ⟨b, 1, none⟩ = some (.int .u8 (low : Int)) := heap_cell h rfl
  have k2 : W.cell? ⟨b, 2, none⟩ = some (.int .u8 (pick : Int)) := heap_cell h rfl
  have k3 : W.cell? ⟨b, 3, none⟩ = some (.int .u8 (mode : Int)) := heap_cell h rfl
  have kf : ∀ k, W.frozen? ⟨b, k, none⟩ = false := fun k => heap_fz h
  have HH : Hid _ := h
  have HO1 : Hid (∀ w, Calls Tryd.prog 97 #[.bool true] w fun e w' => e = .returned (.int .u8 1) ∧ w' = w) := fun w => oneIf_any true
  have HO0 : Hid (∀ w, Calls Tryd.prog 97 #[.bool false] w fun e w' => e = .returned (.int .u8 0) ∧ w' = w) := fun w => oneIf_any false
  clear h
  have hq : (a / 8192 = 0) ∨ (a / 8192 = 1) ∨ (a / 8192 = 2) ∨ (a / 8192 = 3) := by omega
  rcases hq with hq | hq | hq | hq
  · have e1 : (a : Int) / 8192 = 0 := by omega
    obtain ⟨y, hy⟩ : ∃ y : Nat, y = onF x := ⟨_, rfl⟩
    have hset : (Mp.set ⟨1, on, low, high, pick, mode⟩ a x).cells = [.int .u8 ((y : Nat) : Int), .int .u8 ((low : Nat) : Int), .int .u8 ((pick : Nat) : Int), .int .u8 ((mode : Nat) : Int)] := by
      simp [Mp.set, Mp.cells, hq, *]
    rw [hset]
    clear hset
    by_cases h10 : x % 16 = 10
    · have ed : (x : Int) % 16 = 10 := by omega
      obtain rfl : y = 1 := by rw [hy, onF, if_pos h10]
      clear hy h10
      go_enter Tryd.func95, Tryd.ntmps95
      go_wp2_with fail
      refine (HO1.out _).mono ?_
      rintro e w' ⟨rfl, hw'⟩
      obtain rfl := hw'.symm
      clear hw'
      go_wp2_with fail
      go_end0
      exact set_done (k := 0) HH.out rfl rfl
    · have ed : ¬ (x : Int) % 16 = 10 := by omega
      have eb : ((x : Int) % 16 == 10) = false := by rw [beq_eq_false_iff_ne]; exact ed
      obtain rfl : y = 0 := by rw [hy, onF, if_neg h10]
      clear hy h10
      go_enter Tryd.func95, Tryd.ntmps95
      go_wp2_with fail
      refine (HO0.out _).mono ?_
      rintro e w' ⟨rfl, hw'⟩
      obtain rfl := hw'.symm
      clear hw'
      go_wp2_with fail
      go_end0
      exact set_done (k := 0) HH.out rfl rfl
  · have e1 : (a : Int) / 8192 = 1 := by omega
    obtain ⟨y, hy⟩ : ∃ y : Nat, y = max (x % 32) 1 := ⟨_, rfl⟩
    have HY : Hid (y = max (x % 32) 1) := hy
    have hset : (Mp.set ⟨1, on, low, high, pick, mode⟩ a x).cells = [.int .u8 ((on : Nat) : Int), .int .u8 ((y : Nat) : Int), .int .u8 ((pick : Nat) : Int), .int .u8 ((mode : Nat) : Int)] := by
      simp [Mp.set, Mp.cells, hq, *]
    rw [hset]
    clear hset
    try clear hy
    go_enter Tryd.func95, Tryd.ntmps95
    go_wp2_with fail
    go_end0
    exact set_done (k := 1) HH.out rfl (int8 (by have hy := HY.out; subst hy; have z1 := and1 (x : Int) (by omega) (by omega); have z3 := and3 (x : Int) (by omega) (by omega); have z5 := and15 (x : Int) (by omega) (by omega); have z7 := and127 (x : Int) (by omega) (by omega); omega))
  · have e1 : (a : Int) / 8192 = 2 := by omega
    obtain ⟨y, hy⟩ : ∃ y : Nat, y = x % 4 := ⟨_, rfl⟩
    have HY : Hid (y = x % 4) := hy
    have hset : (Mp.set ⟨1, on, low, high, pick, mode⟩ a x).cells = [.int .u8 ((on : Nat) : Int), .int .u8 ((low : Nat) : Int), .int .u8 ((y : Nat) : Int), .int .u8 ((mode : Nat) : Int)] := by
      simp [Mp.set, Mp.cells, hq, *]
    rw [hset]
    clear hset
    try clear hy
    go_enter Tryd.func95, Tryd.ntmps95
    go_wp2_with fail
    go_end0
    exact set_done (k := 2) HH.out rfl (int8 (by have hy := HY.out; subst hy; have z1 := and1 (x : Int) (by omega) (by omega); have z3 := and3 (x : Int) (by omega) (by omega); have z5 := and15 (x : Int) (by omega) (by omega); have z7 := and127 (x : Int) (by omega) (by omega); omega))
  · have e1 : (a : Int) / 8192 = 3 := by omega
    obtain ⟨y, hy⟩ : ∃ y : Nat, y = x % 2 := ⟨_, rfl⟩
    have HY : Hid (y = x % 2) := hy
    have hset : (Mp.set ⟨1, on, low, high, pick, mode⟩ a x).cells = [.int .u8 ((on : Nat) : Int), .int .u8 ((low : Nat) : Int), .int .u8 ((pick : Nat) : Int), .int .u8 ((y : Nat) : Int)] := by
      simp [Mp.set, Mp.cells, hq, *]
    rw [hset]
    clear hset
    try clear hy
    go_enter Tryd.func95, Tryd.ntmps95
    go_wp2_with fail
    go_end0
    exact set_done (k := 3) HH.out rfl (int8 (by have hy := HY.out; subst hy; have z1 := and1 (x : Int) (by omega) (by omega); have z3 := and3 (x : Int) (by omega) (by omega); have z5 := and15 (x : Int) (by omega) (by omega); have z7 := and127 (x : Int) (by omega) (by omega); omega))
set_option maxRecDepth 100000 in
set_option maxHeartbeats 1000000 in
theorem set_3 {on low high pick mode a x : Nat} (h : W.heap[b]? = some (.cells #[.int .u8 ((on : Nat) : Int), .int .u8 ((low : Nat) : Int), .int .u8 ((pick : Nat) : Int)] 116 (0, 0))) (ha : a < 32768) (hx : x ≤ 255) : Calls Tryd.prog 106 #[.pointer (some ⟨b, 0, none⟩), .int .i64 (a : Int), .int .u8 (x : Int)] W (SetAns W b 116 (Mp.set ⟨3, on, low, high, pick, mode⟩ a x).cells) := by
  have k0 : W.cell? ⟨b, 0, none⟩ = some (.int .u8 (on : Int)) := heap_cell h rfl
  have k1 : W.cell? ⟨b, 1, none⟩ = some (.int .u8 (low : Int)) := heap_cell h rfl
  have k2 : W.cell? ⟨b, 2, none⟩ = some (.int .u8 (pick : Int)) := heap_cell h rfl
  have kf : ∀ k, W.frozen? ⟨b, k, none⟩ = false := fun k => heap_fz h
  have HH : Hid _ := h
  have HO1 : Hid (∀ w, Calls Tryd.prog 97 #[.bool true] w fun e w' => e = .returned (.int .u8 1) ∧ w' = w) := fun w => oneIf_any true
  have HO0 : Hid (∀ w, Calls Tryd.prog 97 #[.bool false] w fun e w' => e = .returned (.int .u8 0) ∧ w' = w) := fun w => oneIf_any false
  clear h
  have hq : (a / 8192 = 0) ∨ (a / 8192 = 1) ∨ (a / 8192 = 2) ∨ (a / 8192 = 3) := by omega
  rcases hq with hq | hq | hq | hq
  · have e1 : (a : Int) / 8192 = 0 := by omega
    obtain ⟨y, hy⟩ : ∃ y : Nat, y = onF x := ⟨_, rfl⟩
    have hset : (Mp.set ⟨3, on, low, high, pick, mode⟩ a x).cells = [.int .u8 ((y : Nat) : Int), .int .u8 ((low : Nat) : Int), .int .u8 ((pick : Nat) : Int)] := by
      simp [Mp.set, Mp.cells, hq, *]
    rw [hset]
    clear hset
    by_cases h10 : x % 16 = 10
    · have ed : (x : Int) % 16 = 10 := by omega
      obtain rfl : y = 1 := by rw [hy, onF, if_pos h10]
      clear hy h10
      go_enter Tryd.func106, Tryd.ntmps106
      go_wp2_with fail
      refine (HO1.out _).mono ?_
      rintro e w' ⟨rfl, hw'⟩
      obtain rfl := hw'.symm
      clear hw'
      go_wp2_with fail
      go_end0
      exact set_done (k := 0) HH.out rfl rfl
    · have ed : ¬ (x : Int) % 16 = 10 := by omega
      have eb : ((x : Int) % 16 == 10) = false := by rw [beq_eq_false_iff_ne]; exact ed
      obtain rfl : y = 0 := by rw [hy, onF, if_neg h10]
      clear hy h10
      go_enter Tryd.func106, Tryd.ntmps106
      go_wp2_with fail
      refine (HO0.out _).mono ?_
      rintro e w' ⟨rfl, hw'⟩
      obtain rfl := hw'.symm
      clear hw'
      go_wp2_with fail
      go_end0
      exact set_done (k := 0) HH.out rfl rfl
  · have e1 : (a : Int) / 8192 = 1 := by omega
    obtain ⟨y, hy⟩ : ∃ y : Nat, y = max (x % 128) 1 := ⟨_, rfl⟩
    have HY : Hid (y = max (x % 128) 1) := hy
    have hset : (Mp.set ⟨3, on, low, high, pick, mode⟩ a x).cells = [.int .u8 ((on : Nat) : Int), .int .u8 ((y : Nat) : Int), .int .u8 ((pick : Nat) : Int)] := by
      simp [Mp.set, Mp.cells, hq, *]
    rw [hset]
    clear hset
    try clear hy
    go_enter Tryd.func106, Tryd.ntmps106
    go_wp2_with fail
    go_end0
    exact set_done (k := 1) HH.out rfl (int8 (by have hy := HY.out; subst hy; have z1 := and1 (x : Int) (by omega) (by omega); have z3 := and3 (x : Int) (by omega) (by omega); have z5 := and15 (x : Int) (by omega) (by omega); have z7 := and127 (x : Int) (by omega) (by omega); omega))
  · have e1 : (a : Int) / 8192 = 2 := by omega
    obtain ⟨y, hy⟩ : ∃ y : Nat, y = x % 16 := ⟨_, rfl⟩
    have HY : Hid (y = x % 16) := hy
    have hset : (Mp.set ⟨3, on, low, high, pick, mode⟩ a x).cells = [.int .u8 ((on : Nat) : Int), .int .u8 ((low : Nat) : Int), .int .u8 ((y : Nat) : Int)] := by
      simp [Mp.set, Mp.cells, hq, *]
    rw [hset]
    clear hset
    try clear hy
    go_enter Tryd.func106, Tryd.ntmps106
    go_wp2_with fail
    go_end0
    exact set_done (k := 2) HH.out rfl (int8 (by have hy := HY.out; subst hy; have z1 := and1 (x : Int) (by omega) (by omega); have z3 := and3 (x : Int) (by omega) (by omega); have z5 := and15 (x : Int) (by omega) (by omega); have z7 := and127 (x : Int) (by omega) (by omega); omega))
  · have e1 : (a : Int) / 8192 = 3 := by omega
    have hset : (Mp.set ⟨3, on, low, high, pick, mode⟩ a x).cells = [.int .u8 ((on : Nat) : Int), .int .u8 ((low : Nat) : Int), .int .u8 ((pick : Nat) : Int)] := by
      simp [Mp.set, Mp.cells, hq, *]
    rw [hset]
    clear hset
    try clear hy
    go_enter Tryd.func106, Tryd.ntmps106
    go_wp2_with fail
    go_end0
    exact ⟨rfl, HH.out, Fr.refl _ _⟩
set_option maxRecDepth 100000 in
set_option maxHeartbeats 1000000 in
theorem set_5 {on low high pick mode a x : Nat} (h : W.heap[b]? = some (.cells #[.int .u8 ((on : Nat) : Int), .int .u8 ((low : Nat) : Int), .int .u8 ((high : Nat) : Int), .int .u8 ((pick : Nat) : Int)] 119 (0, 0))) (ha : a < 32768) (hx : x ≤ 255) : Calls Tryd.prog 111 #[.pointer (some ⟨b, 0, none⟩), .int .i64 (a : Int), .int .u8 (x : Int)] W (SetAns W b 119 (Mp.set ⟨5, on, low, high, pick, mode⟩ a x).cells) := by
  have k0 : W.cell? ⟨b, 0, none⟩ = some (.int .u8 (on : Int)) := heap_cell h rfl
  have k1 : W.cell? ⟨b, 1, none⟩ = some (.int .u8 (low : Int)) := heap_cell h rfl
  have k2 : W.cell? ⟨b, 2, none⟩ = some (.int .u8 (high : Int)) := heap_cell h rfl
  have k3 : W.cell? ⟨b, 3, none⟩ = some (.int .u8 (pick : Int)) := heap_cell h rfl
  have kf : ∀ k, W.frozen? ⟨b, k, none⟩ = false := fun k => heap_fz h
  have HH : Hid _ := h
  have HO1 : Hid (∀ w, Calls Tryd.prog 97 #[.bool true] w fun e w' => e = .returned (.int .u8 1) ∧ w' = w) := fun w => oneIf_any true
  have HO0 : Hid (∀ w, Calls Tryd.prog 97 #[.bool false] w fun e w' => e = .returned (.int .u8 0) ∧ w' = w) := fun w => oneIf_any false
  clear h
  have hq : (a / 4096 = 0) ∨ (a / 4096 = 1) ∨ (a / 4096 = 2) ∨ (a / 4096 = 3) ∨ (a / 4096 = 4) ∨ (a / 4096 = 5) ∨ (a / 4096 = 6) ∨ (a / 4096 = 7) := by omega
  rcases hq with hq | hq | hq | hq | hq | hq | hq | hq
  · have e1 : (a : Int) / 4096 = 0 := by omega
    obtain ⟨y, hy⟩ : ∃ y : Nat, y = if x = 10 then 1 else 0 := ⟨_, rfl⟩
    have hset : (Mp.set ⟨5, on, low, high, pick, mode⟩ a x).cells = [.int .u8 ((y : Nat) : Int), .int .u8 ((low : Nat) : Int), .int .u8 ((high : Nat) : Int), .int .u8 ((pick : Nat) : Int)] := by
      simp [Mp.set, Mp.cells, hq, *]
    rw [hset]
    clear hset
    by_cases h10 : x = 10
    · have ed : (x : Int) = 10 := by omega
      obtain rfl : y = 1 := by rw [hy, if_pos h10]
      clear hy h10
      go_enter Tryd.func111, Tryd.ntmps111
      go_wp2_with fail
      refine (HO1.out _).mono ?_
      rintro e w' ⟨rfl, hw'⟩
      obtain rfl := hw'.symm
      clear hw'
      go_wp2_with fail
      go_end0
      exact set_done (k := 0) HH.out rfl rfl
    · have ed : ¬ (x : Int) = 10 := by omega
      have eb : ((x : Int) == 10) = false := by rw [beq_eq_false_iff_ne]; exact ed
      obtain rfl : y = 0 := by rw [hy, if_neg h10]
      clear hy h10
      go_enter Tryd.func111, Tryd.ntmps111
      go_wp2_with fail
      refine (HO0.out _).mono ?_
      rintro e w' ⟨rfl, hw'⟩
      obtain rfl := hw'.symm
      clear hw'
      go_wp2_with fail
      go_end0
      exact set_done (k := 0) HH.out rfl rfl
  · have e1 : (a : Int) / 4096 = 1 := by omega
    obtain ⟨y, hy⟩ : ∃ y : Nat, y = if x = 10 then 1 else 0 := ⟨_, rfl⟩
    have hset : (Mp.set ⟨5, on, low, high, pick, mode⟩ a x).cells = [.int .u8 ((y : Nat) : Int), .int .u8 ((low : Nat) : Int), .int .u8 ((high : Nat) : Int), .int .u8 ((pick : Nat) : Int)] := by
      simp [Mp.set, Mp.cells, hq, *]
    rw [hset]
    clear hset
    by_cases h10 : x = 10
    · have ed : (x : Int) = 10 := by omega
      obtain rfl : y = 1 := by rw [hy, if_pos h10]
      clear hy h10
      go_enter Tryd.func111, Tryd.ntmps111
      go_wp2_with fail
      refine (HO1.out _).mono ?_
      rintro e w' ⟨rfl, hw'⟩
      obtain rfl := hw'.symm
      clear hw'
      go_wp2_with fail
      go_end0
      exact set_done (k := 0) HH.out rfl rfl
    · have ed : ¬ (x : Int) = 10 := by omega
      have eb : ((x : Int) == 10) = false := by rw [beq_eq_false_iff_ne]; exact ed
      obtain rfl : y = 0 := by rw [hy, if_neg h10]
      clear hy h10
      go_enter Tryd.func111, Tryd.ntmps111
      go_wp2_with fail
      refine (HO0.out _).mono ?_
      rintro e w' ⟨rfl, hw'⟩
      obtain rfl := hw'.symm
      clear hw'
      go_wp2_with fail
      go_end0
      exact set_done (k := 0) HH.out rfl rfl
  · have e1 : (a : Int) / 4096 = 2 := by omega
    obtain ⟨y, hy⟩ : ∃ y : Nat, y = x := ⟨_, rfl⟩
    have HY : Hid (y = x) := hy
    have hset : (Mp.set ⟨5, on, low, high, pick, mode⟩ a x).cells = [.int .u8 ((on : Nat) : Int), .int .u8 ((y : Nat) : Int), .int .u8 ((high : Nat) : Int), .int .u8 ((pick : Nat) : Int)] := by
      simp [Mp.set, Mp.cells, hq, *]
    rw [hset]
    clear hset
    try clear hy
    go_enter Tryd.func111, Tryd.ntmps111
    go_wp2_with fail
    go_end0
    exact set_done (k := 1) HH.out rfl (int8 (by have hy := HY.out; subst hy; first | rfl | omega))
  · have e1 : (a : Int) / 4096 = 3 := by omega
    obtain ⟨y, hy⟩ : ∃ y : Nat, y = x % 2 := ⟨_, rfl⟩
    have HY : Hid (y = x % 2) := hy
    have hset : (Mp.set ⟨5, on, low, high, pick, mode⟩ a x).cells = [.int .u8 ((on : Nat) : Int), .int .u8 ((low : Nat) : Int), .int .u8 ((y : Nat) : Int), .int .u8 ((pick : Nat) : Int)] := by
      simp [Mp.set, Mp.cells, hq, *]
    rw [hset]
    clear hset
    try clear hy
    go_enter Tryd.func111, Tryd.ntmps111
    go_wp2_with fail
    go_end0
    exact set_done (k := 2) HH.out rfl (int8 (by have hy := HY.out; subst hy; have z1 := and1 (x : Int) (by omega) (by omega); have z3 := and3 (x : Int) (by omega) (by omega); have z5 := and15 (x : Int) (by omega) (by omega); have z7 := and127 (x : Int) (by omega) (by omega); omega))
  · have e1 : (a : Int) / 4096 = 4 := by omega
    obtain ⟨y, hy⟩ : ∃ y : Nat, y = x % 16 := ⟨_, rfl⟩
    have HY : Hid (y = x % 16) := hy
    have hset : (Mp.set ⟨5, on, low, high, pick, mode⟩ a x).cells = [.int .u8 ((on : Nat) : Int), .int .u8 ((low : Nat) : Int), .int .u8 ((high : Nat) : Int), .int .u8 ((y : Nat) : Int)] := by
      simp [Mp.set, Mp.cells, hq, *]
    rw [hset]
    clear hset
    try clear hy
    go_enter Tryd.func111, Tryd.ntmps111
    go_wp2_with fail
    go_end0
    exact set_done (k := 3) HH.out rfl (int8 (by have hy := HY.out; subst hy; have z1 := and1 (x : Int) (by omega) (by omega); have z3 := and3 (x : Int) (by omega) (by omega); have z5 := and15 (x : Int) (by omega) (by omega); have z7 := and127 (x : Int) (by omega) (by omega); omega))
  · have e1 : (a : Int) / 4096 = 5 := by omega
    obtain ⟨y, hy⟩ : ∃ y : Nat, y = x % 16 := ⟨_, rfl⟩
    have HY : Hid (y = x % 16) := hy
    have hset : (Mp.set ⟨5, on, low, high, pick, mode⟩ a x).cells = [.int .u8 ((on : Nat) : Int), .int .u8 ((low : Nat) : Int), .int .u8 ((high : Nat) : Int), .int .u8 ((y : Nat) : Int)] := by
      simp [Mp.set, Mp.cells, hq, *]
    rw [hset]
    clear hset
    try clear hy
    go_enter Tryd.func111, Tryd.ntmps111
    go_wp2_with fail
    go_end0
    exact set_done (k := 3) HH.out rfl (int8 (by have hy := HY.out; subst hy; have z1 := and1 (x : Int) (by omega) (by omega); have z3 := and3 (x : Int) (by omega) (by omega); have z5 := and15 (x : Int) (by omega) (by omega); have z7 := and127 (x : Int) (by omega) (by omega); omega))
  · have e1 : (a : Int) / 4096 = 6 := by omega
    have hset : (Mp.set ⟨5, on, low, high, pick, mode⟩ a x).cells = [.int .u8 ((on : Nat) : Int), .int .u8 ((low : Nat) : Int), .int .u8 ((high : Nat) : Int), .int .u8 ((pick : Nat) : Int)] := by
      simp [Mp.set, Mp.cells, hq, *]
    rw [hset]
    clear hset
    try clear hy
    go_enter Tryd.func111, Tryd.ntmps111
    go_wp2_with fail
    go_end0
    exact ⟨rfl, HH.out, Fr.refl _ _⟩
  · have e1 : (a : Int) / 4096 = 7 := by omega
    have hset : (Mp.set ⟨5, on, low, high, pick, mode⟩ a x).cells = [.int .u8 ((on : Nat) : Int), .int .u8 ((low : Nat) : Int), .int .u8 ((high : Nat) : Int), .int .u8 ((pick : Nat) : Int)] := by
      simp [Mp.set, Mp.cells, hq, *]
    rw [hset]
    clear hset
    try clear hy
    go_enter Tryd.func111, Tryd.ntmps111
    go_wp2_with fail
    go_end0
    exact ⟨rfl, HH.out, Fr.refl _ _⟩
end Go.Proofs.YtojlappgmckokaaDoor
