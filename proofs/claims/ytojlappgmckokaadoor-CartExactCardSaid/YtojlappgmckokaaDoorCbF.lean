/- Cart: State, Save, Header. -/
import Derived.Test.YtojlappgmckokaaDoorCbD
import Derived.Test.YtojlappgmckokaaDoorCbE
namespace Go.Proofs.YtojlappgmckokaaDoor
open Go.Shelf Go.RowKit
set_option linter.unusedVariables false
set_option linter.unusedSimpArgs false
variable {w w' W : World} {b : Nat} {A : Ad} {C : Ct}
/-- the registers, by their places in a state -/
def Mp.rg (m : Mp) (k : Nat) : Nat := match k with
  | 0 => m.on
  | 1 => m.low
  | 2 => m.high
  | 3 => m.pick
  | 4 => m.mode
  | _ => 0
def loB (kd k : Nat) : Nat := if kd = 1 ∨ kd = 2 ∨ kd = 3 then (if k = 1 then 1 else 0) else 0
def hiB (kd k : Nat) : Nat :=
  if kd = 1 then ([1, 31, 0, 3, 1] : List Nat).getD k 0
  else if kd = 2 then ([1, 15, 0, 0, 0] : List Nat).getD k 0
  else if kd = 3 then ([1, 127, 0, 15, 0] : List Nat).getD k 0
  else if kd = 5 then ([1, 255, 1, 15, 0] : List Nat).getD k 0
  else 0
/-- registers as writes can give them -/
structure Mp.Std (m : Mp) : Prop where
  kd : m.kd = 0 ∨ m.kd = 1 ∨ m.kd = 2 ∨ m.kd = 3 ∨ m.kd = 5
  on : loB m.kd 0 ≤ m.on ∧ m.on ≤ hiB m.kd 0
  low : loB m.kd 1 ≤ m.low ∧ m.low ≤ hiB m.kd 1
  high : loB m.kd 2 ≤ m.high ∧ m.high ≤ hiB m.kd 2
  pick : loB m.kd 3 ≤ m.pick ∧ m.pick ≤ hiB m.kd 3
  mode : loB m.kd 4 ≤ m.mode ∧ m.mode ≤ hiB m.kd 4
theorem Mp.Std.of {m : Mp} (hk : m.kd = 0 ∨ m.kd = 1 ∨ m.kd = 2 ∨ m.kd = 3 ∨ m.kd = 5) (h : ∀ k, k < 5 → loB m.kd k ≤ m.rg k ∧ m.rg k ≤ hiB m.kd k) : m.Std :=
  ⟨hk, h 0 (by decide), h 1 (by decide), h 2 (by decide), h 3 (by decide), h 4 (by decide)⟩
theorem Mp.Std.at' {m : Mp} (h : m.Std) (k : Nat) (hk : k < 5) : loB m.kd k ≤ m.rg k ∧ m.rg k ≤ hiB m.kd k := by
  match k, hk with
  | 0, _ => exact h.on
  | 1, _ => exact h.low
  | 2, _ => exact h.high
  | 3, _ => exact h.pick
  | 4, _ => exact h.mode
theorem Mp.new_std {k : Nat} (hk : k = 0 ∨ k = 1 ∨ k = 2 ∨ k = 3 ∨ k = 5) : (Mp.new k).Std := by
  rcases hk with rfl | rfl | rfl | rfl | rfl <;> exact ⟨by decide, by decide, by decide, by decide, by decide, by decide⟩
theorem onF_le (x : Nat) : onF x ≤ 1 := by unfold onF; split <;> omega
theorem Mp.set_std {m : Mp} (h : m.Std) {a x : Nat} (hx : x ≤ 255) : (m.set a x).Std := by
  obtain ⟨kd, on, low, high, pick, mode⟩ := m
  obtain ⟨h0, h1, h2, h3, h4, h5⟩ := h
  have hf := onF_le x
  have h0 : kd = 0 ∨ kd = 1 ∨ kd = 2 ∨ kd = 3 ∨ kd = 5 := h0
  rcases h0 with rfl | rfl | rfl | rfl | rfl <;> simp [loB, hiB] at h1 h2 h3 h4 h5 <;> unfold Mp.set
  · refine ⟨by simp, ?_, ?_, ?_, ?_, ?_⟩ <;> first | (simp [loB, hiB]; done) | (simp [loB, hiB]; omega)
  all_goals
    simp
    repeat' split
    all_goals refine ⟨by simp, ?_, ?_, ?_, ?_, ?_⟩ <;> first | (simp [loB, hiB]; done) | (simp [loB, hiB]; omega)
def Mp.rgF (m : Mp) (k : Nat) : Int := (m.rg k : Int)
def Ct.st (C : Ct) : Nat → Int := catF 5 C.m.rgF C.rf
theorem MpAt.told {v : Value} {m : Mp} (h : MpAt W v m b) (hs : m.Std) : Calls Tryd.prog 45 #[v] W fun e w' => e = .returned (.agg #[.int .u8 (m.on : Int), .int .u8 (m.low : Int), .int .u8 (m.high : Int), .int .u8 (m.pick : Int), .int .u8 (m.mode : Int)]) ∧ Up W w' := by
  obtain ⟨kd, on, low, high, pick, mode⟩ := m
  obtain ⟨h0, h1, h2, h3, h4, h5⟩ := hs
  rcases h with ⟨hk, hv⟩ | ⟨hk, hv, hb⟩
  · have hk : kd = 0 := hk
    subst hk hv
    simp [loB, hiB] at h1 h2 h3 h4 h5
    subst h1 h2 h3 h4 h5
    exact told_0
  · have hb : W.heap[b]? = some (.cells (Mp.cells ⟨kd, on, low, high, pick, mode⟩).toArray (Mp.bty kd) (0, 0)) := hb
    have hv : v = .iface (Mp.pty kd) (.pointer (some ⟨b, 0, none⟩)) := hv
    have hk : kd = 1 ∨ kd = 2 ∨ kd = 3 ∨ kd = 5 := hk
    rcases hk with rfl | rfl | rfl | rfl <;> subst hv <;> simp [loB, hiB] at h1 h2 h3 h4 h5
    · subst h3
      exact told_1 hb
    · subst h3 h4 h5
      exact told_2 hb
    · subst h3 h5
      exact told_3 hb
    · subst h5
      exact told_5 hb
set_option maxRecDepth 100000 in
set_option maxHeartbeats 1000000 in
theorem CtAt.state (h : CtAt W A C) (hs : C.m.Std) : Calls Tryd.prog 22 #[.pointer (some ⟨A.cb, 0, none⟩)] W (Cop W (5 + C.rm) C.st) := by
  have k7 : W.cell? ⟨A.cb, 7, none⟩ = some (.slice (some ⟨A.rb, 0, none⟩) C.rm A.rc) := heap_cell h.blk rfl
  have k8 : W.cell? ⟨A.cb, 8, none⟩ = some A.v := heap_cell h.blk rfl
  have hrm := h.rm
  have HT : Hid _ := h.mp.told hs
  have HK7 : Hid (∀ w, Up W w → w.cell? ⟨A.cb, 7, none⟩ = some (.slice (some ⟨A.rb, 0, none⟩) C.rm A.rc)) := fun w u => cell_up u k7
  have HB : Hid (∀ w, Up W w → By w A.rb C.rm C.rf) := fun w u => h.ram.up u
  have HE : Hid (C.st = catF 5 C.m.rgF C.rf) := rfl
  obtain ⟨t8, p8, hv8⟩ := mp_iface h.mp
  rw [hv8] at k8 HT
  have HRg : Hid (∀ k, k < 5 → (#[.int .u8 (C.m.on : Int), .int .u8 (C.m.low : Int), .int .u8 (C.m.high : Int), .int .u8 (C.m.pick : Int), .int .u8 (C.m.mode : Int)] : Array Value)[k]? = some (.int .u8 (C.m.rgF k))) := fun k hk => by
    match k, hk with
    | 0, _ => rfl
    | 1, _ => rfl
    | 2, _ => rfl
    | 3, _ => rfl
    | 4, _ => rfl
  generalize C.m.on = x0 at HT HRg
  generalize C.m.low = x1 at HT HRg
  generalize C.m.high = x2 at HT HRg
  generalize C.m.pick = x3 at HT HRg
  generalize C.m.mode = x4 at HT HRg
  generalize C.m.rgF = RG at HRg HE
  generalize C.st = ST at HE ⊢
  generalize C.rf = RF at HB HE
  generalize C.rm = n at *
  generalize A.cb = cb at *
  generalize A.rb = rb at *
  generalize A.rc = rc at *
  clear h hs hv8
  go_enter Tryd.func22, Tryd.ntmps22
  go_wp2_with fail
  refine Calls.mono HT.out ?_
  rintro e w1 ⟨rfl, u1⟩
  have HU1 : Hid (Up W w1) := u1
  clear u1 HT k7 k8
  go_wp2_with fail
  have HR : Hid ((w1.alloc (.cells #[.int .u8 (x0 : Int), .int .u8 (x1 : Int), .int .u8 (x2 : Int), .int .u8 (x3 : Int), .int .u8 (x4 : Int)] 87)).heap[w1.heap.size]? = some (.cells #[.int .u8 (x0 : Int), .int .u8 (x1 : Int), .int .u8 (x2 : Int), .int .u8 (x3 : Int), .int .u8 (x4 : Int)] 87 (0, 0))) := heap_alloc_new w1 _
  have HU2 : Hid (Up W (w1.alloc (.cells #[.int .u8 (x0 : Int), .int .u8 (x1 : Int), .int .u8 (x2 : Int), .int .u8 (x3 : Int), .int .u8 (x4 : Int)] 87))) := HU1.out.alloc _
  generalize World.alloc w1 _ = w2 at HR HU2 ⊢
  generalize w1.heap.size = g1 at HR ⊢
  clear HU1
  refine wp_region_held_drew (S := fun w => w.cell? ⟨cb, 7, none⟩ = some (.slice (some ⟨rb, 0, none⟩) n rc)) (by kernel_rfl) ?_ (fun hHeld => ?_)
  · exact HK7.out _ HU2.out.drew
  have HU3 : Hid (Up W w2.drew) := HU2.out.drew
  have HR3 : Hid (By w2.drew g1 5 RG) := ⟨_, _, HR.out, by simp, HRg.out⟩
  clear HU2 HR
  generalize World.drew w2 = wd at HU3 HR3 hHeld ⊢
  refine wpAnyH_take (i := 0) (v := ?_) (by simp only [List.getElem?_toArray, List.getElem?_cons_zero]; rfl) (by kernel_rfl) (by kernel_rfl) (by kernel_rfl) (by intro _ _ _ h; exact h) (Or.inl ⟨by rfl, ?_⟩) (by assumption) ?_
  rotate_left
  · (intro w hSw; (try dsimp only at hSw); go_simp <;> with_reducible rfl)
  try simp only [Act.put, List.setIfInBounds_toArray, List.set_cons_zero, List.set_cons_succ]
  refine wpAnyH_take (i := 1) (v := ?_) (by simp only [List.getElem?_toArray, List.getElem?_cons_succ, List.getElem?_cons_zero]; rfl) (by kernel_rfl) (by kernel_rfl) (by kernel_rfl) (by intro _ _ _ h; exact h) (Or.inl ⟨by rfl, ?_⟩) (by assumption) ?_
  rotate_left
  · (intro w hSw; (try dsimp only at hSw); go_simp <;> with_reducible rfl)
  try simp only [Act.put, List.setIfInBounds_toArray, List.set_cons_zero, List.set_cons_succ]
  refine wpAnyH_take (i := 2) (v := ?_) (by simp only [List.getElem?_toArray, List.getElem?_cons_succ, List.getElem?_cons_zero]; rfl) (by kernel_rfl) (by kernel_rfl) (by kernel_rfl) (by intro _ _ _ h; exact h) (Or.inl ⟨by rfl, ?_⟩) (by assumption) ?_
  rotate_left
  · (intro w hSw; (try dsimp only at hSw); go_simp <;> with_reducible rfl)
  try simp only [Act.put, List.setIfInBounds_toArray, List.set_cons_zero, List.set_cons_succ]
  refine wpAnyH_take (i := 3) (v := ?_) (by simp only [List.getElem?_toArray, List.getElem?_cons_succ, List.getElem?_cons_zero]; rfl) (by kernel_rfl) (by kernel_rfl) (by kernel_rfl) (by intro _ _ _ h; exact h) (Or.inl ⟨by rfl, ?_⟩) (by assumption) ?_
  rotate_left
  · (intro w hSw; (try dsimp only at hSw); go_simp <;> with_reducible rfl)
  try simp only [Act.put, List.setIfInBounds_toArray, List.set_cons_zero, List.set_cons_succ]
  refine wpAnyH_take (i := 4) (v := ?_) (by simp only [List.getElem?_toArray, List.getElem?_cons_succ, List.getElem?_cons_zero]; rfl) (by kernel_rfl) (by kernel_rfl) (by kernel_rfl) (by intro _ _ _ h; exact h) (Or.inl ⟨by rfl, ?_⟩) (by assumption) ?_
  rotate_left
  · (intro w hSw; (try dsimp only at hSw); go_simp <;> with_reducible rfl)
  try simp only [Act.put, List.setIfInBounds_toArray, List.set_cons_zero, List.set_cons_succ]
  refine wpAnyH_ready (rs := [5]) (by kernel_rfl) (by simp) ?_
  refine AllReadyH.cons (by simp only [List.getElem?_toArray, List.getElem?_cons_succ, List.getElem?_cons_zero]; rfl) (fun KK hK => ?_) AllReadyH.nil
  go_simp
  have HC : Hid (∀ w, Up (wd.alloc (.cells #[.slice (some ⟨g1, 0, none⟩) 5 5, .slice (some ⟨rb, 0, none⟩) n rc] 24)) w → Calls Tryd.prog 46 #[.slice (some ⟨wd.heap.size, 0, none⟩) 2 2] w (Cop w (5 + n) (catF 5 RG RF))) := fun w u => by
    have hb := (u.block _ (heap_at (heap_alloc_new wd _))).trans (heap_alloc_new wd (.cells #[.slice (some ⟨g1, 0, none⟩) 5 5, .slice (some ⟨rb, 0, none⟩) n rc] 24))
    have ua : Up wd w := ((Up.refl wd).alloc _).trans u
    exact concat_any (heap_cell hb rfl) (heap_cell hb rfl) (HR3.out.up ua) (HB.out w (HU3.out.trans ua)) (by decide) (by decide) hrm
  have HU4 : Hid (Up W (wd.alloc (.cells #[.slice (some ⟨g1, 0, none⟩) 5 5, .slice (some ⟨rb, 0, none⟩) n rc] 24))) := HU3.out.alloc _
  generalize World.alloc wd _ = we at HC HU4 ⊢
  generalize wd.heap.size = sb at HC ⊢
  refine hK.out _ _ (HK7.out _ HU4.out) (fun hHeld => ?_)
  clear hK KK
  try simp only [Act.put, List.setIfInBounds_toArray, List.set_cons_zero, List.set_cons_succ]
  refine wpAnyH_ready (rs := [6]) (by kernel_rfl) (by simp) ?_
  refine AllReadyH.cons (by simp only [List.getElem?_toArray, List.getElem?_cons_succ, List.getElem?_cons_zero]; rfl) (fun KK hK => ?_) AllReadyH.nil
  go_simp
  refine Calls.mono (HC.out we (Up.refl _)) ?_
  rintro e w7 ⟨g', cap', rfl, hg, hby, hc1, hc2, u7⟩
  have HZ : Hid (we.heap.size ≤ g' ∧ By w7 g' (5 + n) (catF 5 RG RF) ∧ 5 + n ≤ cap' ∧ cap' ≤ maxLen ∧ Up W w7) := ⟨hg, hby, hc1, hc2, HU4.out.trans u7⟩
  clear hg hby hc1 hc2 u7 HC
  refine hK.out _ _ (HK7.out _ HZ.out.2.2.2.2) (fun hHeld => ?_)
  clear hK KK
  try simp only [Act.put, List.setIfInBounds_toArray, List.set_cons_zero, List.set_cons_succ]
  refine wpAnyH_take (i := 7) (v := ?_) (by simp only [List.getElem?_toArray, List.getElem?_cons_succ, List.getElem?_cons_zero]; rfl) (by kernel_rfl) (by kernel_rfl) (by kernel_rfl) (by intro _ _ _ h; exact h) (Or.inl ⟨by rfl, ?_⟩) (by assumption) ?_
  rotate_left
  · (intro w hSw; (try dsimp only at hSw); go_simp <;> with_reducible rfl)
  try simp only [Act.put, List.setIfInBounds_toArray, List.set_cons_zero, List.set_cons_succ]
  refine wpAnyH_done (by kernel_rfl) ?_ _
  clear hHeld
  go_wp2_with fail
  first | go_ret | go_ret2
  obtain ⟨z1, z2, z3, z4, z5⟩ := HZ.out
  exact ⟨g', cap', by first | rfl | (simp; done), Nat.le_trans HU4.out.size z1, by rw [HE.out]; exact z2, z3, z4, z5⟩
set_option maxRecDepth 100000 in
theorem CtAt.save (h : CtAt W A C) (hb : C.bat = true) : Calls Tryd.prog 24 #[.pointer (some ⟨A.cb, 0, none⟩)] W (Cop W C.rm C.rf) := by
  have k5 : W.cell? ⟨A.cb, 5, none⟩ = some (.bool true) := by rw [← hb]; exact heap_cell h.blk rfl
  have k7 : W.cell? ⟨A.cb, 7, none⟩ = some (.slice (some ⟨A.rb, 0, none⟩) C.rm A.rc) := heap_cell h.blk rfl
  have HC : Hid _ := cloneB_any (W := W) (g := A.rb) (o := 0) (n := C.rm) (f := C.rf) (cap := A.rc) (by have := h.rm; omega) (fun k hk => by rw [Nat.zero_add]; exact h.ram.cell k hk)
  clear h hb
  go_enter Tryd.func24, Tryd.ntmps24
  go_wp2_with fail
  refine Calls.mono HC.out ?_
  rintro e w1 ⟨g', cap', rfl, h1⟩
  have H1 : Hid _ := h1
  clear h1
  go_wp2_with fail
  go_ret
  exact ⟨g', cap', by first | rfl | (simp; done), H1.out⟩
set_option maxRecDepth 100000 in
theorem CtAt.saveNone (h : CtAt W A C) (hb : C.bat = false) : Calls Tryd.prog 24 #[.pointer (some ⟨A.cb, 0, none⟩)] W fun e w' => e = .returned (.slice none 0 0) ∧ w' = W := by
  have k5 : W.cell? ⟨A.cb, 5, none⟩ = some (.bool false) := by rw [← hb]; exact heap_cell h.blk rfl
  clear h hb
  go_enter Tryd.func24, Tryd.ntmps24
  go_wp2_with fail
  go_ret
  exact ⟨by first | rfl | (simp; done), rfl⟩
end Go.Proofs.YtojlappgmckokaaDoor
