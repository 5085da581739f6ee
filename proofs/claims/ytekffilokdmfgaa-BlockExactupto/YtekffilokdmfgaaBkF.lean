/- Block: Write. -/
import Derived.Test.YtekffilokdmfgaaBkE
namespace Go.Proofs.Ytekffilokdmfgaa
open Go.RowKit
set_option linter.unusedVariables false
set_option linter.unusedSimpArgs false
variable {w w' W : World} {g n m o : Nat} {f f' : Nat → Int} {K K' : Nat → Prop} {sb : Nat} {A : Ad} {S : Sto}
theorem wp_append_at {P : Program} (w : World) {o : Oper} {a : Act} {K : Act → World → Prop} {Q : Exit → Act → World → Prop} (s x : Operand) (t : TypeId)
    (ho : o.op = .call { callee := .builtin .append, args := #[s, x], argTypes := #[t, t] })
    (base : Nat) (e : TypeId) (i : TypeInfo) (z : Value) (size bytes : Nat) (ht : P.underlying t = some (.slice e)) (hi : P.info? e = some i) (hz : i.zero = some z)
    (hsize : i.size = size) (hby : i.bytes = bytes) (hzs : z.cells.size = size) (hsz : 0 < size)
    (v : Value) (n : Nat) (xs : List Value) (hs : a.eval s = v) (hown : w.ownsRow base e size v n xs)
    (ad : Addr) (m c : Nat) (news : List Value) (hx : a.eval x = .slice (some ad) m c) (hl : news.length = m * size) (hnews : ∀ j u, news[j]? = some u → w.cell? (ad.add j) = some u) (h1 : ∀ u ∈ news, u.oneCell' = true)
    (h63 : n + m ≤ maxLen) (hbytes : (n + m) * bytes ≤ 140737488355328) (hbase : base ≤ w.heap.size)
    (h : ∀ v' w', w'.ownsRow base e size v' (n + m) (xs ++ news) → w.grownBy w' v.ownBlock → (v'.ownBlock = v.ownBlock ∨ v'.ownBlock = some w.heap.size) → K (a.put o.dst v') w') : o.wp P a w K Q := by
  obtain ⟨v', w', hr, h2, h3, _, h5⟩ := run_append_own_at (P := P) w base t o.type e i z size bytes ht hi hz hsize hby hzs hsz v n xs hown ad m c news hl hnews h1 h63 hbytes hbase
  unfold Oper.wp execOp
  simp only [ho, resolve, invoke, builtin, Sem.run_bind, Sem.run_pure, Result.andThen_ok, List.map_toArray, List.map_cons, List.map_nil, hs, hx, hr]
  exact h v' w' h2 h3 h5
/-- a list of bytes whose block is one of K -/
structure Lk (K : Nat → Prop) (w : World) (v : Value) (n : Nat) (f : Nat → Int) : Prop where
  at' : ∃ (aa : Option Addr) (ab ao c : Nat), v = .slice aa n c ∧ n ≤ c ∧ c ≤ maxLen ∧ (0 < n → aa = some ⟨ab, ao, none⟩ ∧ K ab) ∧ ∀ k, k < n → w.cell? ⟨ab, ao + k, none⟩ = some (.int .u8 (f k))
theorem Lk.fk {v : Value} (h : Lk K w v n f) (u : FK K w w') : Lk K w' v n f := by
  obtain ⟨aa, ab, ao, c, h1, h2, h3, h4, h5⟩ := h.at'
  refine ⟨aa, ab, ao, c, h1, h2, h3, h4, fun k hk => ?_⟩
  have hk5 := h5 k hk
  have hb := u.block ab (World.block_lt_of_cell? _ _ hk5) (h4 (by omega)).2
  unfold World.cell? at hk5 ⊢
  simp only [hb]
  exact hk5
theorem Lk.lb {v : Value} (h : Lk K w v n f) : Lb w v n f := by
  obtain ⟨aa, ab, ao, c, h1, h2, h3, h4, h5⟩ := h.at'
  exact ⟨aa, ab, ao, c, h1, h2, h3, fun h => (h4 h).1, h5⟩
theorem Lk.mono {v : Value} (h : Lk K w v n f) (hk : ∀ b, K b → K' b) : Lk K' w v n f := by
  obtain ⟨aa, ab, ao, c, h1, h2, h3, h4, h5⟩ := h.at'
  exact ⟨aa, ab, ao, c, h1, h2, h3, fun h => ⟨(h4 h).1, hk _ (h4 h).2⟩, h5⟩
theorem Lk.up {v : Value} (h : Lk K w v n f) (u : Up w w') : Lk K w' v n f := h.fk (FK.ofUp u)
theorem By.lk {c : Nat} (h : By w g n f) (hc : n ≤ c) (hm : c ≤ maxLen) (hk : K g) : Lk K w (.slice (some ⟨g, 0, none⟩) n c) n f :=
  ⟨_, g, 0, c, rfl, hc, hm, fun _ => ⟨rfl, hk⟩, fun k hk => by rw [Nat.zero_add]; exact h.cell k hk⟩
/-- what a write makes -/
def Sto.wrote (S : Sto) (i : Nat) (fd : Nat → Int) : Sto := { S with now := putF S.now (512 * i) 512 fd, pend := S.pend ++ [(i, fd)], left := if S.left = -1 then -1 else S.left - 1 }
set_option maxRecDepth 100000 in
theorem write_no (h : StR K W sb A S) {x : Int} {aa : Option Addr} {dl dc : Nat} (hx : I64 x) (hl : dl ≤ 9223372036854775807) (hno : ¬ (0 ≤ x ∧ x < (S.n : Int)) ∨ dl ≠ 512) :
    Calls Try.prog 17 #[.pointer (some ⟨sb, 0, none⟩), .int .i64 x, .slice aa dl dc] W fun e w' => e = .returned (.int .i64 1) ∧ w' = W := by
  have HH : Hid (∀ w, w = W → Calls Try.prog 35 #[.pointer (some ⟨sb, 0, none⟩), .int .i64 x] w fun e w' => e = .returned (.bool (decide (0 ≤ x ∧ x < (S.n : Int)))) ∧ w' = w) := fun w hw => by
    subst hw
    exact has_any h hx
  clear h hx
  by_cases d1 : 0 ≤ x ∧ x < (S.n : Int)
  · have e2 : ((dl : Int) == 512) = false := beq_eq_false_iff_ne.2 (by rcases hno with h | h; exact absurd d1 h; omega)
    rw [decide_eq_true d1] at HH
    clear hno d1
    go_enter Try.func17, Try.ntmps17
    go_wp2_with fail
    refine (HH.out _ rfl).mono ?_
    rintro e w' ⟨rfl, hw'⟩
    obtain rfl := hw'.symm
    go_wp2_with fail
    go_ret
    exact ⟨by first | rfl | (simp; done), rfl⟩
  · rw [decide_eq_false d1] at HH
    clear hno d1
    go_enter Try.func17, Try.ntmps17
    go_wp2_with fail
    refine (HH.out _ rfl).mono ?_
    rintro e w' ⟨rfl, hw'⟩
    obtain rfl := hw'.symm
    go_wp2_with fail
    go_ret
    exact ⟨by first | rfl | (simp; done), rfl⟩
set_option maxRecDepth 100000 in
theorem write_full (h : StR K W sb A S) {i : Nat} {aa : Option Addr} {dc : Nat} (hi : i < S.n) (hl : S.left = 0) :
    Calls Try.prog 17 #[.pointer (some ⟨sb, 0, none⟩), .int .i64 (i : Int), .slice aa 512 dc] W fun e w' => e = .returned (.int .i64 101) ∧ w' = W := by
  have hn := h.n2
  have HH : Hid (∀ w, w = W → Calls Try.prog 35 #[.pointer (some ⟨sb, 0, none⟩), .int .i64 (i : Int)] w fun e w' => e = .returned (.bool true) ∧ w' = w) := fun w hw => by
    subst hw
    have := has_any h (x := (i : Int)) ⟨by omega, by omega⟩
    rw [decide_eq_true ⟨by omega, by omega⟩] at this
    exact this
  have k3 := h.cell.2.2.2
  rw [hl] at k3
  clear h hl
  go_enter Try.func17, Try.ntmps17
  go_wp2_with fail
  refine (HH.out _ rfl).mono ?_
  rintro e w' ⟨rfl, hw'⟩
  obtain rfl := hw'.symm
  go_wp2_with fail
  go_ret
  exact ⟨by first | rfl | (simp; done), rfl⟩
set_option maxRecDepth 100000 in
set_option maxHeartbeats 2000000 in
theorem write_ok (h : StAt K W sb S) {i : Nat} {v : Value} {fd : Nat → Int} (hi : i < S.n) (hl : S.left ≠ 0) (D : Lk K W v 512 fd) (hp : S.pend.length ≤ 1099511627776) :
    Calls Try.prog 17 #[.pointer (some ⟨sb, 0, none⟩), .int .i64 (i : Int), v] W fun e w' => e = .returned (.int .i64 0) ∧ StAt K w' sb (S.wrote i fd) ∧ FK K W w' := by
  obtain ⟨A, h⟩ := h
  have hn := h.n2
  have HH : Hid (∀ w, w = W → Calls Try.prog 35 #[.pointer (some ⟨sb, 0, none⟩), .int .i64 (i : Int)] w fun e w' => e = .returned (.bool true) ∧ w' = w) := fun w hw => by
    subst hw
    have := has_any h (x := (i : Int)) ⟨by omega, by omega⟩
    rw [decide_eq_true ⟨by omega, by omega⟩] at this
    exact this
  obtain ⟨aa, ab, ao, dc, rfl, dc1, dc2, da, dcell⟩ := D.at'
  obtain ⟨rfl, hkab⟩ := da (by decide)
  have HD : Hid (Lk K W (.slice (some ⟨ab, ao, none⟩) 512 dc) 512 fd) := D
  have hdc2 : dc ≤ 9223372036854775807 := by unfold maxLen at dc2; omega
  -- the sector, in whatever world
  have HS : Hid (∀ w, Calls Try.prog 37 #[.slice (some ⟨A.nb, 0, none⟩) (512 * S.n) A.nc, .int .i64 (i : Int)] w fun e w' => e = .returned (.slice (some ⟨A.nb, 512 * i, none⟩) 512 512) ∧ w' = w) := fun w => sector_any hi hn h.nc1 h.nc2
  have HCl : Hid (∀ w, FK K W w → Calls Try.prog 36 #[.slice (some ⟨ab, ao, none⟩) 512 dc] w (Cop w 512 fd)) := fun w u => by
    obtain ⟨aa, ab', ao', c', e1, e2, e3, e4, e5⟩ := (D.fk u).at'
    injection e1 with e1 _ _
    have e6 := (e4 (by decide)).1
    rw [e6] at e1
    injection e1 with e1
    injection e1 with e1 e7
    subst e1 e7
    exact cloneB_any (by decide) e5
  have HCp : Hid (∀ w S1, StR K w sb A S1 → S1.n = S.n → FK K W w → ∀ ty, (Builtin.copy_ #[25, 25] ty #[.slice (some ⟨A.nb, 512 * i, none⟩) 512 512, .slice (some ⟨ab, ao, none⟩) 512 dc]).run Try.prog w = .ok (goInt 512) (w.setCells A.nb (512 * i) (byL fd 512))) := fun w S1 h1 hn1 u ty => by
    have nw := h1.now
    rw [hn1] at nw
    have hr := run_copy_cells (P := Try.prog) w 25 25 ty 5 A.nb (512 * i) 512 512 ⟨ab, ao, none⟩ 512 dc (byL fd 512) Try.underlying25 (by kernel_rfl) (by rw [byL_len]; rfl) (fun j v hj => ?_) (fun j hj => ?_) (fun j hj => nw.fz _) (byL_one fd 512)
    · rw [byL_len] at hr
      exact hr
    · have hjn : j < 512 := by have := (List.getElem?_eq_some_iff.1 hj).1; rwa [byL_len] at this
      rw [byL_at hjn] at hj
      rw [Addr.add_lit, ← hj]
      have hc := dcell j hjn
      have hb := u.block ab (World.block_lt_of_cell? _ _ hc) hkab
      unfold World.cell? at hc ⊢
      simp only [hb]
      exact hc
    · rw [byL_len] at hj
      rw [nw.cell (512 * i + j) (by omega)]
      rfl
  have HC2 : Hid (∀ w S1, StR K w sb A S1 → S1.n = S.n → FK K W w → StR K (w.setCells A.nb (512 * i) (byL fd 512)) sb A { S1 with now := putF S1.now (512 * i) 512 fd } ∧ FK K W (w.setCells A.nb (512 * i) (byL fd 512))) := fun w S1 h1 hn1 u => by
    have nw := h1.now
    have := h1.setNow (fr_setCells A.nb (byL fd 512) (512 * i) w) (nw.setCells (512 * i) 512 fd (by rw [hn1]; omega))
    exact ⟨this.1, u.trans this.2⟩
  obtain ⟨pa, pc, hv, hp1, hp2⟩ := h.pv
  have hpl : A.ws.length = S.pend.length := by rw [← h.tie, List.length_map]
  have hie : Try.prog.info? 73 = some Try.t73 := by kernel_rfl
  have k0 := h.cell.1
  have k3 := h.cell.2.2.2
  have z3 := h.fz 3
  have HV : Hid (A.pv = .slice pa S.pend.length pc) := hv
  have hl1 := h.l1
  have hl2 := h.l2
  have HP : Hid (S.pend.length ≤ 1099511627776 ∧ A.ws.length = S.pend.length ∧ i < S.n) := ⟨hp, hpl, hi⟩
  have HSt : Hid (StR K W sb A S) := h
  clear h D dcell hkab da hv hpl dc2 hp hp1 hp2
  have d0 : ¬ S.left = 0 := hl
  by_cases hm : S.left = -1
  · have HF : Hid (∀ w, StAt K w sb { S with now := putF S.now (512 * i) 512 fd, pend := S.pend ++ [(i, fd)] } → StAt K w sb (S.wrote i fd)) := fun w h => by
      have e : S.wrote i fd = { S with now := putF S.now (512 * i) 512 fd, pend := S.pend ++ [(i, fd)] } := by
        unfold Sto.wrote
        rw [if_pos hm, ← hm]
      rw [e]
      exact h
    have HW1 : Hid (StR K W sb A S ∧ FK K W W) := ⟨HSt.out, ⟨rfl, rfl, Nat.le_refl _, fun _ _ _ => rfl⟩⟩
    have e1 : (S.left == -1) = true := by rw [hm]; rfl
    have e0 : (S.left == 0) = false := by rw [hm]; rfl
    clear hm d0 hl
    generalize 512 * S.n = N at *
    generalize 512 * i = I at *
    go_enter Try.func17, Try.ntmps17
    go_wp2_with fail
    refine (HH.out _ rfl).mono ?_
    rintro e w' ⟨rfl, hw'⟩
    obtain rfl := hw'.symm
    go_wp2_with fail
    refine (HS.out _).mono ?_
    rintro e w' ⟨rfl, hw'⟩
    obtain rfl := hw'.symm
    go_wp2_with (refine wpList_copy_runI _ rfl _ _ 25 25 rfl _ _ rfl rfl (HCp.out W S HW1.out.1 rfl HW1.out.2 _) ?_)
    have H2 : Hid _ := HC2.out W S HW1.out.1 rfl HW1.out.2
    clear HC2 HCp HW1
    generalize World.setCells _ A.nb _ _ = w2 at H2 ⊢
    have HKB : Hid (∀ w, Up w2 w → w.cell? ⟨sb, 2, none⟩ = some (.slice pa S.pend.length pc)) := fun w u => by
      have := (H2.out.1.up u).cell.2.2.1
      rw [HV.out] at this
      exact this
    refine wp_region_held_drew (S := fun _ => True) (by kernel_rfl) ?_ (fun hHeld => ?_)
    · trivial
    have u3 : Up w2 w2.drew := (Up.refl w2).drew
    generalize World.drew w2 = w3 at u3 ⊢
    refine wpAnyH_take (i := 0) (v := ?_) (by simp only [List.getElem?_toArray, List.getElem?_cons_zero]; rfl) (by kernel_rfl) (by kernel_rfl) (by kernel_rfl) (by intro _ _ _ h; exact h) (Or.inl ⟨by rfl, ?_⟩) (by assumption) ?_
    rotate_left
    · (intro w hSw; (try dsimp only at hSw); go_simp <;> with_reducible rfl)
    try simp only [Act.put, List.setIfInBounds_toArray, List.set_cons_zero, List.set_cons_succ]
    refine wpAnyH_take (i := 1) (v := ?_) (by simp only [List.getElem?_toArray, List.getElem?_cons_succ, List.getElem?_cons_zero]; rfl) (by kernel_rfl) (by kernel_rfl) (by kernel_rfl) (by intro _ _ _ h; exact h) (Or.inl ⟨by rfl, ?_⟩) (by assumption) ?_
    rotate_left
    · (intro w hSw; (try dsimp only at hSw); go_simp <;> with_reducible rfl)
    try simp only [Act.put, List.setIfInBounds_toArray, List.set_cons_zero, List.set_cons_succ]
    refine wpAnyH_take (i := 2) (v := ?_) (by simp only [List.getElem?_toArray, List.getElem?_cons_succ, List.getElem?_cons_zero]; rfl) (by kernel_rfl) (by kernel_rfl) (by kernel_rfl) (by intro _ _ _ h; exact h) (Or.inl ⟨by rfl, ?_⟩) (by assumption) ?_
    rotate_left
    · (intro w hSw; (try dsimp only at hSw); go_simp <;> with_reducible rfl)
    try simp only [Act.put, List.setIfInBounds_toArray, List.set_cons_zero, List.set_cons_succ]
    refine wpAnyH_take (i := 3) (v := ?_) (by simp only [List.getElem?_toArray, List.getElem?_cons_succ, List.getElem?_cons_zero]; rfl) (by kernel_rfl) (by kernel_rfl) (by kernel_rfl) (by intro _ _ _ h; exact h) (Or.inl ⟨by rfl, ?_⟩) (by assumption) ?_
    rotate_left
    · (intro w hSw; (try dsimp only at hSw); go_simp <;> with_reducible rfl)
    try simp only [Act.put, List.setIfInBounds_toArray, List.set_cons_zero, List.set_cons_succ]
    refine wpAnyH_take (i := 5) (v := ?_) (by simp only [List.getElem?_toArray, List.getElem?_cons_succ, List.getElem?_cons_zero]; rfl) (by kernel_rfl) (by kernel_rfl) (by kernel_rfl) (by intro _ _ _ h; exact h) (Or.inl ⟨by rfl, ?_⟩) (by assumption) ?_
    rotate_left
    · (intro w hSw; (try dsimp only at hSw); go_simp <;> with_reducible rfl)
    try simp only [Act.put, List.setIfInBounds_toArray, List.set_cons_zero, List.set_cons_succ]
    refine wpAnyH_take (i := 6) (v := ?_) (by simp only [List.getElem?_toArray, List.getElem?_cons_succ, List.getElem?_cons_zero]; rfl) (by kernel_rfl) (by kernel_rfl) (by kernel_rfl) (by intro _ _ _ h; exact h) (Or.inl ⟨by rfl, ?_⟩) (by assumption) ?_
    rotate_left
    · (intro w hSw; (try dsimp only at hSw); go_simp <;> with_reducible rfl)
    try simp only [Act.put, List.setIfInBounds_toArray, List.set_cons_zero, List.set_cons_succ]
    refine wpAnyH_ready (rs := [4, 7]) (by kernel_rfl) (by simp) ?_
    refine AllReadyH.cons (by simp only [List.getElem?_toArray, List.getElem?_cons_succ, List.getElem?_cons_zero]; rfl) (fun KK hK => ?_) (AllReadyH.cons (by simp only [List.getElem?_toArray, List.getElem?_cons_succ, List.getElem?_cons_zero]; rfl) (fun KK hK => ?_) AllReadyH.nil)
    · skip
      have kl := HKB.out w3 u3
      go_simp
      refine hK.out _ _ trivial (fun hHeld => ?_)
      clear hK KK kl
      try simp only [Act.put, List.setIfInBounds_toArray, List.set_cons_zero, List.set_cons_succ]
      refine wpAnyH_ready (rs := [7]) (by kernel_rfl) (by simp) ?_
      refine AllReadyH.cons (by simp only [List.getElem?_toArray, List.getElem?_cons_succ, List.getElem?_cons_zero]; rfl) (fun KK hK => ?_) AllReadyH.nil
      go_simp
      refine (HCl.out _ (H2.out.2.trans (FK.ofUp u3))).mono ?_
      rintro e w4 ⟨g, gc, rfl, q1, q2, q3, q4, q5⟩
      have H4 : Hid (w2.heap.size ≤ g ∧ By w4 g 512 fd ∧ 512 ≤ gc ∧ gc ≤ maxLen ∧ Up w2 w4) := ⟨Nat.le_trans u3.size q1, q2, q3, q4, u3.trans q5⟩
      clear q1 q2 q3 q4 q5
      refine hK.out _ _ trivial (fun hHeld => ?_)
      clear hK KK
      try simp only [Act.put, List.setIfInBounds_toArray, List.set_cons_zero, List.set_cons_succ]
      refine wpAnyH_take (i := 8) (v := ?_) (by simp only [List.getElem?_toArray, List.getElem?_cons_succ, List.getElem?_cons_zero]; rfl) (by kernel_rfl) (by kernel_rfl) (by kernel_rfl) (by intro _ _ _ h; exact h) (Or.inl ⟨by rfl, ?_⟩) (by assumption) ?_
      rotate_left
      · (intro w hSw; (try dsimp only at hSw); go_simp <;> with_reducible rfl)
      try simp only [Act.put, List.setIfInBounds_toArray, List.set_cons_zero, List.set_cons_succ]
      refine wpAnyH_ready (rs := [9]) (by kernel_rfl) (by simp) ?_
      refine AllReadyH.cons (by simp only [List.getElem?_toArray, List.getElem?_cons_succ, List.getElem?_cons_zero]; rfl) (fun KK hK => ?_) AllReadyH.nil
      go_simp
      have u5 : Up w4 (w4.alloc (Obj.cells #[.int .i64 (i : Int), .slice (some ⟨g, 0, none⟩) 512 gc] 73)) := (Up.refl w4).alloc _
      have kn : (w4.alloc (Obj.cells #[.int .i64 (i : Int), .slice (some ⟨g, 0, none⟩) 512 gc] 73)).heap[w4.heap.size]? = some (.cells #[.int .i64 (i : Int), .slice (some ⟨g, 0, none⟩) 512 gc] 73 (0, 0)) := heap_alloc_new w4 _
      generalize World.alloc w4 _ = w5 at u5 kn ⊢
      generalize w4.heap.size = nb at kn ⊢
      refine hK.out _ _ trivial (fun hHeld => ?_)
      clear hK KK
      try simp only [Act.put, List.setIfInBounds_toArray, List.set_cons_zero, List.set_cons_succ]
      refine wpAnyH_ready (rs := [10]) (by kernel_rfl) (by simp) ?_
      refine AllReadyH.cons (by simp only [List.getElem?_toArray, List.getElem?_cons_succ, List.getElem?_cons_zero]; rfl) (fun KK hK => ?_) AllReadyH.nil
      rw [if_pos (by rfl)]
      have U5 : Up w2 w5 := H4.out.2.2.2.2.trans u5
      have ow := ownsRow_up H2.out.1.row U5
      rw [HV.out, HP.out.2.1] at ow
      refine wp_append_at _ _ _ 65 rfl 0 73 Try.t73 (.agg #[.int .i64 0, .slice none 0 0]) 2 32 Try.underlying65 hie rfl rfl rfl rfl (by decide) (.slice pa S.pend.length pc) S.pend.length (wrCells A.ws) rfl ow ⟨nb, 0, none⟩ 1 1 [.int .i64 (i : Int), .slice (some ⟨g, 0, none⟩) 512 gc] rfl rfl ?c1 ?c2 ?c3 ?c4 ?c5 ?_
      case c1 =>
        intro j u hu
        rw [Addr.add_lit, Nat.zero_add, cell_of_row _ _ _ _ _ _ kn]
        simpa using hu
      case c2 =>
        intro u hu
        simp at hu
        rcases hu with rfl | rfl <;> rfl
      case c3 => have := HP.out.1; unfold maxLen; omega
      case c4 => have := HP.out.1; omega
      case c5 => exact Nat.zero_le _
      intro v' w6 ho6 hg6 hat
      obtain ⟨va', vn', vc', rfl⟩ := own_slice3 ho6
      have ho7 := ho6
      have hg7 := hg6
      have hat7 := hat
      rw [← HP.out.2.1] at ho7
      rw [← HV.out] at hg7 hat7
      have H6 : Hid _ := H2.out.1.pushed U5 H4.out.1 (H4.out.2.1.up u5) H4.out.2.2.1 H4.out.2.2.2.1 HP.out.2.2 ho7 hg7 hat7
      have hs6 : w6.heap[sb]? = w2.heap[sb]? := (hg7.block sb (Nat.lt_of_lt_of_le (heap_at H2.out.1.blk) U5.size) (fun e => H2.out.1.a4.1 e.symm)).trans (U5.block sb (heap_at H2.out.1.blk))
      have hs7 := hs6.trans H2.out.1.blk
      have ks6 : w6.cell? ⟨sb, 2, none⟩ = some A.pv := heap_cell hs7 rfl
      have kz6 : w6.frozen? ⟨sb, 2, none⟩ = false := heap_fz hs7
      have HFK : Hid (FK K W w2) := H2.out.2
      clear hs6 hs7 ho7 hg7 hat7 ho6 hg6 hat ow U5
      refine hK.out _ _ trivial (fun hHeld => ?_)
      clear hK KK
      try simp only [Act.put, List.setIfInBounds_toArray, List.set_cons_zero, List.set_cons_succ]
      refine wpAnyH_take (i := 11) (v := ?_) (by simp only [List.getElem?_toArray, List.getElem?_cons_succ, List.getElem?_cons_zero]; rfl) (by kernel_rfl) (by kernel_rfl) (by kernel_rfl) (by intro _ _ _ h; exact h) (Or.inl ⟨by rfl, ?_⟩) (by assumption) ?_
      rotate_left
      · (intro w hSw; (try dsimp only at hSw); go_simp <;> with_reducible rfl)
      try simp only [Act.put, List.setIfInBounds_toArray, List.set_cons_zero, List.set_cons_succ]
      refine wpAnyH_take (i := 12) (v := ?_) (by simp only [List.getElem?_toArray, List.getElem?_cons_succ, List.getElem?_cons_zero]; rfl) (by kernel_rfl) (by kernel_rfl) (by kernel_rfl) (by intro _ _ _ h; exact h) (Or.inl ⟨by rfl, ?_⟩) (by assumption) ?_
      rotate_left
      · (intro w hSw; (try dsimp only at hSw); go_simp <;> with_reducible rfl)
      try simp only [Act.put, List.setIfInBounds_toArray, List.set_cons_zero, List.set_cons_succ]
      refine wpAnyH_ready (rs := [13]) (by kernel_rfl) (by simp) ?_
      refine AllReadyH.cons (by simp only [List.getElem?_toArray, List.getElem?_cons_succ, List.getElem?_cons_zero]; rfl) (fun KK hK => ?_) AllReadyH.nil
      go_simp
      refine hK.out _ _ trivial (fun _ => ?_)
      clear hK KK
      try simp only [Act.put, List.setIfInBounds_toArray, List.set_cons_zero, List.set_cons_succ]
      refine wpAnyH_done (by kernel_rfl) ?_ _
      clear ks6 kz6
      go_wp2_with fail
      go_ret
      exact ⟨by first | rfl | (simp; done), HF.out _ ⟨_, H6.out.1⟩, HFK.out.trans H6.out.2⟩
    · skip
      go_simp
      refine (HCl.out _ (H2.out.2.trans (FK.ofUp u3))).mono ?_
      rintro e w4 ⟨g, gc, rfl, q1, q2, q3, q4, q5⟩
      have H4 : Hid (w2.heap.size ≤ g ∧ By w4 g 512 fd ∧ 512 ≤ gc ∧ gc ≤ maxLen ∧ Up w2 w4) := ⟨Nat.le_trans u3.size q1, q2, q3, q4, u3.trans q5⟩
      clear q1 q2 q3 q4 q5
      refine hK.out _ _ trivial (fun hHeld => ?_)
      clear hK KK
      try simp only [Act.put, List.setIfInBounds_toArray, List.set_cons_zero, List.set_cons_succ]
      refine wpAnyH_take (i := 8) (v := ?_) (by simp only [List.getElem?_toArray, List.getElem?_cons_succ, List.getElem?_cons_zero]; rfl) (by kernel_rfl) (by kernel_rfl) (by kernel_rfl) (by intro _ _ _ h; exact h) (Or.inl ⟨by rfl, ?_⟩) (by assumption) ?_
      rotate_left
      · (intro w hSw; (try dsimp only at hSw); go_simp <;> with_reducible rfl)
      try simp only [Act.put, List.setIfInBounds_toArray, List.set_cons_zero, List.set_cons_succ]
      refine wpAnyH_ready (rs := [4, 9]) (by kernel_rfl) (by simp) ?_
      refine AllReadyH.cons (by simp only [List.getElem?_toArray, List.getElem?_cons_succ, List.getElem?_cons_zero]; rfl) (fun KK hK => ?_) (AllReadyH.cons (by simp only [List.getElem?_toArray, List.getElem?_cons_succ, List.getElem?_cons_zero]; rfl) (fun KK hK => ?_) AllReadyH.nil)
      · skip
        have kl := HKB.out w4 H4.out.2.2.2.2
        go_simp
        refine hK.out _ _ trivial (fun hHeld => ?_)
        clear hK KK kl
        try simp only [Act.put, List.setIfInBounds_toArray, List.set_cons_zero, List.set_cons_succ]
        refine wpAnyH_ready (rs := [9]) (by kernel_rfl) (by simp) ?_
        refine AllReadyH.cons (by simp only [List.getElem?_toArray, List.getElem?_cons_succ, List.getElem?_cons_zero]; rfl) (fun KK hK => ?_) AllReadyH.nil
        go_simp
        have u5 : Up w4 (w4.alloc (Obj.cells #[.int .i64 (i : Int), .slice (some ⟨g, 0, none⟩) 512 gc] 73)) := (Up.refl w4).alloc _
        have kn : (w4.alloc (Obj.cells #[.int .i64 (i : Int), .slice (some ⟨g, 0, none⟩) 512 gc] 73)).heap[w4.heap.size]? = some (.cells #[.int .i64 (i : Int), .slice (some ⟨g, 0, none⟩) 512 gc] 73 (0, 0)) := heap_alloc_new w4 _
        generalize World.alloc w4 _ = w5 at u5 kn ⊢
        generalize w4.heap.size = nb at kn ⊢
        refine hK.out _ _ trivial (fun hHeld => ?_)
        clear hK KK
        try simp only [Act.put, List.setIfInBounds_toArray, List.set_cons_zero, List.set_cons_succ]
        refine wpAnyH_ready (rs := [10]) (by kernel_rfl) (by simp) ?_
        refine AllReadyH.cons (by simp only [List.getElem?_toArray, List.getElem?_cons_succ, List.getElem?_cons_zero]; rfl) (fun KK hK => ?_) AllReadyH.nil
        rw [if_pos (by rfl)]
        have U5 : Up w2 w5 := H4.out.2.2.2.2.trans u5
        have ow := ownsRow_up H2.out.1.row U5
        rw [HV.out, HP.out.2.1] at ow
        refine wp_append_at _ _ _ 65 rfl 0 73 Try.t73 (.agg #[.int .i64 0, .slice none 0 0]) 2 32 Try.underlying65 hie rfl rfl rfl rfl (by decide) (.slice pa S.pend.length pc) S.pend.length (wrCells A.ws) rfl ow ⟨nb, 0, none⟩ 1 1 [.int .i64 (i : Int), .slice (some ⟨g, 0, none⟩) 512 gc] rfl rfl ?c1 ?c2 ?c3 ?c4 ?c5 ?_
        case c1 =>
          intro j u hu
          rw [Addr.add_lit, Nat.zero_add, cell_of_row _ _ _ _ _ _ kn]
          simpa using hu
        case c2 =>
          intro u hu
          simp at hu
          rcases hu with rfl | rfl <;> rfl
        case c3 => have := HP.out.1; unfold maxLen; omega
        case c4 => have := HP.out.1; omega
        case c5 => exact Nat.zero_le _
        intro v' w6 ho6 hg6 hat
        obtain ⟨va', vn', vc', rfl⟩ := own_slice3 ho6
        have ho7 := ho6
        have hg7 := hg6
        have hat7 := hat
        rw [← HP.out.2.1] at ho7
        rw [← HV.out] at hg7 hat7
        have H6 : Hid _ := H2.out.1.pushed U5 H4.out.1 (H4.out.2.1.up u5) H4.out.2.2.1 H4.out.2.2.2.1 HP.out.2.2 ho7 hg7 hat7
        have hs6 : w6.heap[sb]? = w2.heap[sb]? := (hg7.block sb (Nat.lt_of_lt_of_le (heap_at H2.out.1.blk) U5.size) (fun e => H2.out.1.a4.1 e.symm)).trans (U5.block sb (heap_at H2.out.1.blk))
        have hs7 := hs6.trans H2.out.1.blk
        have ks6 : w6.cell? ⟨sb, 2, none⟩ = some A.pv := heap_cell hs7 rfl
        have kz6 : w6.frozen? ⟨sb, 2, none⟩ = false := heap_fz hs7
        have HFK : Hid (FK K W w2) := H2.out.2
        clear hs6 hs7 ho7 hg7 hat7 ho6 hg6 hat ow U5
        refine hK.out _ _ trivial (fun hHeld => ?_)
        clear hK KK
        try simp only [Act.put, List.setIfInBounds_toArray, List.set_cons_zero, List.set_cons_succ]
        refine wpAnyH_take (i := 11) (v := ?_) (by simp only [List.getElem?_toArray, List.getElem?_cons_succ, List.getElem?_cons_zero]; rfl) (by kernel_rfl) (by kernel_rfl) (by kernel_rfl) (by intro _ _ _ h; exact h) (Or.inl ⟨by rfl, ?_⟩) (by assumption) ?_
        rotate_left
        · (intro w hSw; (try dsimp only at hSw); go_simp <;> with_reducible rfl)
        try simp only [Act.put, List.setIfInBounds_toArray, List.set_cons_zero, List.set_cons_succ]
        refine wpAnyH_take (i := 12) (v := ?_) (by simp only [List.getElem?_toArray, List.getElem?_cons_succ, List.getElem?_cons_zero]; rfl) (by kernel_rfl) (by kernel_rfl) (by kernel_rfl) (by intro _ _ _ h; exact h) (Or.inl ⟨by rfl, ?_⟩) (by assumption) ?_
        rotate_left
        · (intro w hSw; (try dsimp only at hSw); go_simp <;> with_reducible rfl)
        try simp only [Act.put, List.setIfInBounds_toArray, List.set_cons_zero, List.set_cons_succ]
        refine wpAnyH_ready (rs := [13]) (by kernel_rfl) (by simp) ?_
        refine AllReadyH.cons (by simp only [List.getElem?_toArray, List.getElem?_cons_succ, List.getElem?_cons_zero]; rfl) (fun KK hK => ?_) AllReadyH.nil
        go_simp
        refine hK.out _ _ trivial (fun _ => ?_)
        clear hK KK
        try simp only [Act.put, List.setIfInBounds_toArray, List.set_cons_zero, List.set_cons_succ]
        refine wpAnyH_done (by kernel_rfl) ?_ _
        clear ks6 kz6
        go_wp2_with fail
        go_ret
        exact ⟨by first | rfl | (simp; done), HF.out _ ⟨_, H6.out.1⟩, HFK.out.trans H6.out.2⟩
      · skip
        go_simp
        have u5 : Up w4 (w4.alloc (Obj.cells #[.int .i64 (i : Int), .slice (some ⟨g, 0, none⟩) 512 gc] 73)) := (Up.refl w4).alloc _
        have kn : (w4.alloc (Obj.cells #[.int .i64 (i : Int), .slice (some ⟨g, 0, none⟩) 512 gc] 73)).heap[w4.heap.size]? = some (.cells #[.int .i64 (i : Int), .slice (some ⟨g, 0, none⟩) 512 gc] 73 (0, 0)) := heap_alloc_new w4 _
        generalize World.alloc w4 _ = w5 at u5 kn ⊢
        generalize w4.heap.size = nb at kn ⊢
        refine hK.out _ _ trivial (fun hHeld => ?_)
        clear hK KK
        try simp only [Act.put, List.setIfInBounds_toArray, List.set_cons_zero, List.set_cons_succ]
        refine wpAnyH_ready (rs := [4]) (by kernel_rfl) (by simp) ?_
        refine AllReadyH.cons (by simp only [List.getElem?_toArray, List.getElem?_cons_succ, List.getElem?_cons_zero]; rfl) (fun KK hK => ?_) AllReadyH.nil
        have kl := HKB.out w5 (H4.out.2.2.2.2.trans u5)
        go_simp
        refine hK.out _ _ trivial (fun hHeld => ?_)
        clear hK KK kl
        try simp only [Act.put, List.setIfInBounds_toArray, List.set_cons_zero, List.set_cons_succ]
        refine wpAnyH_ready (rs := [10]) (by kernel_rfl) (by simp) ?_
        refine AllReadyH.cons (by simp only [List.getElem?_toArray, List.getElem?_cons_succ, List.getElem?_cons_zero]; rfl) (fun KK hK => ?_) AllReadyH.nil
        rw [if_pos (by rfl)]
        have U5 : Up w2 w5 := H4.out.2.2.2.2.trans u5
        have ow := ownsRow_up H2.out.1.row U5
        rw [HV.out, HP.out.2.1] at ow
        refine wp_append_at _ _ _ 65 rfl 0 73 Try.t73 (.agg #[.int .i64 0, .slice none 0 0]) 2 32 Try.underlying65 hie rfl rfl rfl rfl (by decide) (.slice pa S.pend.length pc) S.pend.length (wrCells A.ws) rfl ow ⟨nb, 0, none⟩ 1 1 [.int .i64 (i : Int), .slice (some ⟨g, 0, none⟩) 512 gc] rfl rfl ?c1 ?c2 ?c3 ?c4 ?c5 ?_
        case c1 =>
          intro j u hu
          rw [Addr.add_lit, Nat.zero_add, cell_of_row _ _ _ _ _ _ kn]
          simpa using hu
        case c2 =>
          intro u hu
          simp at hu
          rcases hu with rfl | rfl <;> rfl
        case c3 => have := HP.out.1; unfold maxLen; omega
        case c4 => have := HP.out.1; omega
        case c5 => exact Nat.zero_le _
        intro v' w6 ho6 hg6 hat
        obtain ⟨va', vn', vc', rfl⟩ := own_slice3 ho6
        have ho7 := ho6
        have hg7 := hg6
        have hat7 := hat
        rw [← HP.out.2.1] at ho7
        rw [← HV.out] at hg7 hat7
        have H6 : Hid _ := H2.out.1.pushed U5 H4.out.1 (H4.out.2.1.up u5) H4.out.2.2.1 H4.out.2.2.2.1 HP.out.2.2 ho7 hg7 hat7
        have hs6 : w6.heap[sb]? = w2.heap[sb]? := (hg7.block sb (Nat.lt_of_lt_of_le (heap_at H2.out.1.blk) U5.size) (fun e => H2.out.1.a4.1 e.symm)).trans (U5.block sb (heap_at H2.out.1.blk))
        have hs7 := hs6.trans H2.out.1.blk
        have ks6 : w6.cell? ⟨sb, 2, none⟩ = some A.pv := heap_cell hs7 rfl
        have kz6 : w6.frozen? ⟨sb, 2, none⟩ = false := heap_fz hs7
        have HFK : Hid (FK K W w2) := H2.out.2
        clear hs6 hs7 ho7 hg7 hat7 ho6 hg6 hat ow U5
        refine hK.out _ _ trivial (fun hHeld => ?_)
        clear hK KK
        try simp only [Act.put, List.setIfInBounds_toArray, List.set_cons_zero, List.set_cons_succ]
        refine wpAnyH_take (i := 11) (v := ?_) (by simp only [List.getElem?_toArray, List.getElem?_cons_succ, List.getElem?_cons_zero]; rfl) (by kernel_rfl) (by kernel_rfl) (by kernel_rfl) (by intro _ _ _ h; exact h) (Or.inl ⟨by rfl, ?_⟩) (by assumption) ?_
        rotate_left
        · (intro w hSw; (try dsimp only at hSw); go_simp <;> with_reducible rfl)
        try simp only [Act.put, List.setIfInBounds_toArray, List.set_cons_zero, List.set_cons_succ]
        refine wpAnyH_take (i := 12) (v := ?_) (by simp only [List.getElem?_toArray, List.getElem?_cons_succ, List.getElem?_cons_zero]; rfl) (by kernel_rfl) (by kernel_rfl) (by kernel_rfl) (by intro _ _ _ h; exact h) (Or.inl ⟨by rfl, ?_⟩) (by assumption) ?_
        rotate_left
        · (intro w hSw; (try dsimp only at hSw); go_simp <;> with_reducible rfl)
        try simp only [Act.put, List.setIfInBounds_toArray, List.set_cons_zero, List.set_cons_succ]
        refine wpAnyH_ready (rs := [13]) (by kernel_rfl) (by simp) ?_
        refine AllReadyH.cons (by simp only [List.getElem?_toArray, List.getElem?_cons_succ, List.getElem?_cons_zero]; rfl) (fun KK hK => ?_) AllReadyH.nil
        go_simp
        refine hK.out _ _ trivial (fun _ => ?_)
        clear hK KK
        try simp only [Act.put, List.setIfInBounds_toArray, List.set_cons_zero, List.set_cons_succ]
        refine wpAnyH_done (by kernel_rfl) ?_ _
        clear ks6 kz6
        go_wp2_with fail
        go_ret
        exact ⟨by first | rfl | (simp; done), HF.out _ ⟨_, H6.out.1⟩, HFK.out.trans H6.out.2⟩
  · have HF : Hid (∀ w, StAt K w sb { S with now := putF S.now (512 * i) 512 fd, pend := S.pend ++ [(i, fd)], left := S.left - 1 } → StAt K w sb (S.wrote i fd)) := fun w h => by
      have e : S.wrote i fd = { S with now := putF S.now (512 * i) 512 fd, pend := S.pend ++ [(i, fd)], left := S.left - 1 } := by
        unfold Sto.wrote
        rw [if_neg hm]
      rw [e]
      exact h
    have HW1 : Hid (StR K (W.setCell ⟨sb, 3, none⟩ (.int .i64 (S.left - 1))) sb A { S with left := S.left - 1 } ∧ FK K W (W.setCell ⟨sb, 3, none⟩ (.int .i64 (S.left - 1)))) := HSt.out.setLeft (S.left - 1) (by omega) (by omega)
    have k0' : (W.setCell ⟨sb, 3, none⟩ (.int .i64 (S.left - 1))).cell? ⟨sb, 0, none⟩ = some (.slice (some ⟨A.nb, 0, none⟩) (512 * S.n) A.nc) := HW1.out.1.cell.1
    have e1 : (S.left == -1) = false := beq_eq_false_iff_ne.2 hm
    have e0 : (S.left == 0) = false := beq_eq_false_iff_ne.2 d0
    have b1 : 0 < S.left := by omega
    clear hm d0 hl
    generalize 512 * S.n = N at *
    generalize 512 * i = I at *
    go_enter Try.func17, Try.ntmps17
    go_wp2_with fail
    refine (HH.out _ rfl).mono ?_
    rintro e w' ⟨rfl, hw'⟩
    obtain rfl := hw'.symm
    go_wp2_with fail
    refine (HS.out _).mono ?_
    rintro e w' ⟨rfl, hw'⟩
    obtain rfl := hw'.symm
    go_wp2_with (refine wpList_copy_runI _ rfl _ _ 25 25 rfl _ _ rfl rfl (HCp.out (W.setCell ⟨sb, 3, none⟩ (.int .i64 (S.left - 1))) { S with left := S.left - 1 } HW1.out.1 rfl HW1.out.2 _) ?_)
    have H2 : Hid _ := HC2.out (W.setCell ⟨sb, 3, none⟩ (.int .i64 (S.left - 1))) { S with left := S.left - 1 } HW1.out.1 rfl HW1.out.2
    clear HC2 HCp HW1
    generalize World.setCells _ A.nb _ _ = w2 at H2 ⊢
    have HKB : Hid (∀ w, Up w2 w → w.cell? ⟨sb, 2, none⟩ = some (.slice pa S.pend.length pc)) := fun w u => by
      have := (H2.out.1.up u).cell.2.2.1
      rw [HV.out] at this
      exact this
    refine wp_region_held_drew (S := fun _ => True) (by kernel_rfl) ?_ (fun hHeld => ?_)
    · trivial
    have u3 : Up w2 w2.drew := (Up.refl w2).drew
    generalize World.drew w2 = w3 at u3 ⊢
    refine wpAnyH_take (i := 0) (v := ?_) (by simp only [List.getElem?_toArray, List.getElem?_cons_zero]; rfl) (by kernel_rfl) (by kernel_rfl) (by kernel_rfl) (by intro _ _ _ h; exact h) (Or.inl ⟨by rfl, ?_⟩) (by assumption) ?_
    rotate_left
    · (intro w hSw; (try dsimp only at hSw); go_simp <;> with_reducible rfl)
    try simp only [Act.put, List.setIfInBounds_toArray, List.set_cons_zero, List.set_cons_succ]
    refine wpAnyH_take (i := 1) (v := ?_) (by simp only [List.getElem?_toArray, List.getElem?_cons_succ, List.getElem?_cons_zero]; rfl) (by kernel_rfl) (by kernel_rfl) (by kernel_rfl) (by intro _ _ _ h; exact h) (Or.inl ⟨by rfl, ?_⟩) (by assumption) ?_
    rotate_left
    · (intro w hSw; (try dsimp only at hSw); go_simp <;> with_reducible rfl)
    try simp only [Act.put, List.setIfInBounds_toArray, List.set_cons_zero, List.set_cons_succ]
    refine wpAnyH_take (i := 2) (v := ?_) (by simp only [List.getElem?_toArray, List.getElem?_cons_succ, List.getElem?_cons_zero]; rfl) (by kernel_rfl) (by kernel_rfl) (by kernel_rfl) (by intro _ _ _ h; exact h) (Or.inl ⟨by rfl, ?_⟩) (by assumption) ?_
    rotate_left
    · (intro w hSw; (try dsimp only at hSw); go_simp <;> with_reducible rfl)
    try simp only [Act.put, List.setIfInBounds_toArray, List.set_cons_zero, List.set_cons_succ]
    refine wpAnyH_take (i := 3) (v := ?_) (by simp only [List.getElem?_toArray, List.getElem?_cons_succ, List.getElem?_cons_zero]; rfl) (by kernel_rfl) (by kernel_rfl) (by kernel_rfl) (by intro _ _ _ h; exact h) (Or.inl ⟨by rfl, ?_⟩) (by assumption) ?_
    rotate_left
    · (intro w hSw; (try dsimp only at hSw); go_simp <;> with_reducible rfl)
    try simp only [Act.put, List.setIfInBounds_toArray, List.set_cons_zero, List.set_cons_succ]
    refine wpAnyH_take (i := 5) (v := ?_) (by simp only [List.getElem?_toArray, List.getElem?_cons_succ, List.getElem?_cons_zero]; rfl) (by kernel_rfl) (by kernel_rfl) (by kernel_rfl) (by intro _ _ _ h; exact h) (Or.inl ⟨by rfl, ?_⟩) (by assumption) ?_
    rotate_left
    · (intro w hSw; (try dsimp only at hSw); go_simp <;> with_reducible rfl)
    try simp only [Act.put, List.setIfInBounds_toArray, List.set_cons_zero, List.set_cons_succ]
    refine wpAnyH_take (i := 6) (v := ?_) (by simp only [List.getElem?_toArray, List.getElem?_cons_succ, List.getElem?_cons_zero]; rfl) (by kernel_rfl) (by kernel_rfl) (by kernel_rfl) (by intro _ _ _ h; exact h) (Or.inl ⟨by rfl, ?_⟩) (by assumption) ?_
    rotate_left
    · (intro w hSw; (try dsimp only at hSw); go_simp <;> with_reducible rfl)
    try simp only [Act.put, List.setIfInBounds_toArray, List.set_cons_zero, List.set_cons_succ]
    refine wpAnyH_ready (rs := [4, 7]) (by kernel_rfl) (by simp) ?_
    refine AllReadyH.cons (by simp only [List.getElem?_toArray, List.getElem?_cons_succ, List.getElem?_cons_zero]; rfl) (fun KK hK => ?_) (AllReadyH.cons (by simp only [List.getElem?_toArray, List.getElem?_cons_succ, List.getElem?_cons_zero]; rfl) (fun KK hK => ?_) AllReadyH.nil)
    · skip
      have kl := HKB.out w3 u3
      go_simp
      refine hK.out _ _ trivial (fun hHeld => ?_)
      clear hK KK kl
      try simp only [Act.put, List.setIfInBounds_toArray, List.set_cons_zero, List.set_cons_succ]
      refine wpAnyH_ready (rs := [7]) (by kernel_rfl) (by simp) ?_
      refine AllReadyH.cons (by simp only [List.getElem?_toArray, List.getElem?_cons_succ, List.getElem?_cons_zero]; rfl) (fun KK hK => ?_) AllReadyH.nil
      go_simp
      refine (HCl.out _ (H2.out.2.trans (FK.ofUp u3))).mono ?_
      rintro e w4 ⟨g, gc, rfl, q1, q2, q3, q4, q5⟩
      have H4 : Hid (w2.heap.size ≤ g ∧ By w4 g 512 fd ∧ 512 ≤ gc ∧ gc ≤ maxLen ∧ Up w2 w4) := ⟨Nat.le_trans u3.size q1, q2, q3, q4, u3.trans q5⟩
      clear q1 q2 q3 q4 q5
      refine hK.out _ _ trivial (fun hHeld => ?_)
      clear hK KK
      try simp only [Act.put, List.setIfInBounds_toArray, List.set_cons_zero, List.set_cons_succ]
      refine wpAnyH_take (i := 8) (v := ?_) (by simp only [List.getElem?_toArray, List.getElem?_cons_succ, List.getElem?_cons_zero]; rfl) (by kernel_rfl) (by kernel_rfl) (by kernel_rfl) (by intro _ _ _ h; exact h) (Or.inl ⟨by rfl, ?_⟩) (by assumption) ?_
      rotate_left
      · (intro w hSw; (try dsimp only at hSw); go_simp <;> with_reducible rfl)
      try simp only [Act.put, List.setIfInBounds_toArray, List.set_cons_zero, List.set_cons_succ]
      refine wpAnyH_ready (rs := [9]) (by kernel_rfl) (by simp) ?_
      refine AllReadyH.cons (by simp only [List.getElem?_toArray, List.getElem?_cons_succ, List.getElem?_cons_zero]; rfl) (fun KK hK => ?_) AllReadyH.nil
      go_simp
      have u5 : Up w4 (w4.alloc (Obj.cells #[.int .i64 (i : Int), .slice (some ⟨g, 0, none⟩) 512 gc] 73)) := (Up.refl w4).alloc _
      have kn : (w4.alloc (Obj.cells #[.int .i64 (i : Int), .slice (some ⟨g, 0, none⟩) 512 gc] 73)).heap[w4.heap.size]? = some (.cells #[.int .i64 (i : Int), .slice (some ⟨g, 0, none⟩) 512 gc] 73 (0, 0)) := heap_alloc_new w4 _
      generalize World.alloc w4 _ = w5 at u5 kn ⊢
      generalize w4.heap.size = nb at kn ⊢
      refine hK.out _ _ trivial (fun hHeld => ?_)
      clear hK KK
      try simp only [Act.put, List.setIfInBounds_toArray, List.set_cons_zero, List.set_cons_succ]
      refine wpAnyH_ready (rs := [10]) (by kernel_rfl) (by simp) ?_
      refine AllReadyH.cons (by simp only [List.getElem?_toArray, List.getElem?_cons_succ, List.getElem?_cons_zero]; rfl) (fun KK hK => ?_) AllReadyH.nil
      rw [if_pos (by rfl)]
      have U5 : Up w2 w5 := H4.out.2.2.2.2.trans u5
      have ow := ownsRow_up H2.out.1.row U5
      rw [HV.out, HP.out.2.1] at ow
      refine wp_append_at _ _ _ 65 rfl 0 73 Try.t73 (.agg #[.int .i64 0, .slice none 0 0]) 2 32 Try.underlying65 hie rfl rfl rfl rfl (by decide) (.slice pa S.pend.length pc) S.pend.length (wrCells A.ws) rfl ow ⟨nb, 0, none⟩ 1 1 [.int .i64 (i : Int), .slice (some ⟨g, 0, none⟩) 512 gc] rfl rfl ?c1 ?c2 ?c3 ?c4 ?c5 ?_
      case c1 =>
        intro j u hu
        rw [Addr.add_lit, Nat.zero_add, cell_of_row _ _ _ _ _ _ kn]
        simpa using hu
      case c2 =>
        intro u hu
        simp at hu
        rcases hu with rfl | rfl <;> rfl
      case c3 => have := HP.out.1; unfold maxLen; omega
      case c4 => have := HP.out.1; omega
      case c5 => exact Nat.zero_le _
      intro v' w6 ho6 hg6 hat
      obtain ⟨va', vn', vc', rfl⟩ := own_slice3 ho6
      have ho7 := ho6
      have hg7 := hg6
      have hat7 := hat
      rw [← HP.out.2.1] at ho7
      rw [← HV.out] at hg7 hat7
      have H6 : Hid _ := H2.out.1.pushed U5 H4.out.1 (H4.out.2.1.up u5) H4.out.2.2.1 H4.out.2.2.2.1 HP.out.2.2 ho7 hg7 hat7
      have hs6 : w6.heap[sb]? = w2.heap[sb]? := (hg7.block sb (Nat.lt_of_lt_of_le (heap_at H2.out.1.blk) U5.size) (fun e => H2.out.1.a4.1 e.symm)).trans (U5.block sb (heap_at H2.out.1.blk))
      have hs7 := hs6.trans H2.out.1.blk
      have ks6 : w6.cell? ⟨sb, 2, none⟩ = some A.pv := heap_cell hs7 rfl
      have kz6 : w6.frozen? ⟨sb, 2, none⟩ = false := heap_fz hs7
      have HFK : Hid (FK K W w2) := H2.out.2
      clear hs6 hs7 ho7 hg7 hat7 ho6 hg6 hat ow U5
      refine hK.out _ _ trivial (fun hHeld => ?_)
      clear hK KK
      try simp only [Act.put, List.setIfInBounds_toArray, List.set_cons_zero, List.set_cons_succ]
      refine wpAnyH_take (i := 11) (v := ?_) (by simp only [List.getElem?_toArray, List.getElem?_cons_succ, List.getElem?_cons_zero]; rfl) (by kernel_rfl) (by kernel_rfl) (by kernel_rfl) (by intro _ _ _ h; exact h) (Or.inl ⟨by rfl, ?_⟩) (by assumption) ?_
      rotate_left
      · (intro w hSw; (try dsimp only at hSw); go_simp <;> with_reducible rfl)
      try simp only [Act.put, List.setIfInBounds_toArray, List.set_cons_zero, List.set_cons_succ]
      refine wpAnyH_take (i := 12) (v := ?_) (by simp only [List.getElem?_toArray, List.getElem?_cons_succ, List.getElem?_cons_zero]; rfl) (by kernel_rfl) (by kernel_rfl) (by kernel_rfl) (by intro _ _ _ h; exact h) (Or.inl ⟨by rfl, ?_⟩) (by assumption) ?_
      rotate_left
      · (intro w hSw; (try dsimp only at hSw); go_simp <;> with_reducible rfl)
      try simp only [Act.put, List.setIfInBounds_toArray, List.set_cons_zero, List.set_cons_succ]
      refine wpAnyH_ready (rs := [13]) (by kernel_rfl) (by simp) ?_
      refine AllReadyH.cons (by simp only [List.getElem?_toArray, List.getElem?_cons_succ, List.getElem?_cons_zero]; rfl) (fun KK hK => ?_) AllReadyH.nil
      go_simp
      refine hK.out _ _ trivial (fun _ => ?_)
      clear hK KK
      try simp only [Act.put, List.setIfInBounds_toArray, List.set_cons_zero, List.set_cons_succ]
      refine wpAnyH_done (by kernel_rfl) ?_ _
      clear ks6 kz6
      go_wp2_with fail
      go_ret
      exact ⟨by first | rfl | (simp; done), HF.out _ ⟨_, H6.out.1⟩, HFK.out.trans H6.out.2⟩
    · skip
      go_simp
      refine (HCl.out _ (H2.out.2.trans (FK.ofUp u3))).mono ?_
      rintro e w4 ⟨g, gc, rfl, q1, q2, q3, q4, q5⟩
      have H4 : Hid (w2.heap.size ≤ g ∧ By w4 g 512 fd ∧ 512 ≤ gc ∧ gc ≤ maxLen ∧ Up w2 w4) := ⟨Nat.le_trans u3.size q1, q2, q3, q4, u3.trans q5⟩
      clear q1 q2 q3 q4 q5
      refine hK.out _ _ trivial (fun hHeld => ?_)
      clear hK KK
      try simp only [Act.put, List.setIfInBounds_toArray, List.set_cons_zero, List.set_cons_succ]
      refine wpAnyH_take (i := 8) (v := ?_) (by simp only [List.getElem?_toArray, List.getElem?_cons_succ, List.getElem?_cons_zero]; rfl) (by kernel_rfl) (by kernel_rfl) (by kernel_rfl) (by intro _ _ _ h; exact h) (Or.inl ⟨by rfl, ?_⟩) (by assumption) ?_
      rotate_left
      · (intro w hSw; (try dsimp only at hSw); go_simp <;> with_reducible rfl)
      try simp only [Act.put, List.setIfInBounds_toArray, List.set_cons_zero, List.set_cons_succ]
      refine wpAnyH_ready (rs := [4, 9]) (by kernel_rfl) (by simp) ?_
      refine AllReadyH.cons (by simp only [List.getElem?_toArray, List.getElem?_cons_succ, List.getElem?_cons_zero]; rfl) (fun KK hK => ?_) (AllReadyH.cons (by simp only [List.getElem?_toArray, List.getElem?_cons_succ, List.getElem?_cons_zero]; rfl) (fun KK hK => ?_) AllReadyH.nil)
      · skip
        have kl := HKB.out w4 H4.out.2.2.2.2
        go_simp
        refine hK.out _ _ trivial (fun hHeld => ?_)
        clear hK KK kl
        try simp only [Act.put, List.setIfInBounds_toArray, List.set_cons_zero, List.set_cons_succ]
        refine wpAnyH_ready (rs := [9]) (by kernel_rfl) (by simp) ?_
        refine AllReadyH.cons (by simp only [List.getElem?_toArray, List.getElem?_cons_succ, List.getElem?_cons_zero]; rfl) (fun KK hK => ?_) AllReadyH.nil
        go_simp
        have u5 : Up w4 (w4.alloc (Obj.cells #[.int .i64 (i : Int), .slice (some ⟨g, 0, none⟩) 512 gc] 73)) := (Up.refl w4).alloc _
        have kn : (w4.alloc (Obj.cells #[.int .i64 (i : Int), .slice (some ⟨g, 0, none⟩) 512 gc] 73)).heap[w4.heap.size]? = some (.cells #[.int .i64 (i : Int), .slice (some ⟨g, 0, none⟩) 512 gc] 73 (0, 0)) := heap_alloc_new w4 _
        generalize World.alloc w4 _ = w5 at u5 kn ⊢
        generalize w4.heap.size = nb at kn ⊢
        refine hK.out _ _ trivial (fun hHeld => ?_)
        clear hK KK
        try simp only [Act.put, List.setIfInBounds_toArray, List.set_cons_zero, List.set_cons_succ]
        refine wpAnyH_ready (rs := [10]) (by kernel_rfl) (by simp) ?_
        refine AllReadyH.cons (by simp only [List.getElem?_toArray, List.getElem?_cons_succ, List.getElem?_cons_zero]; rfl) (fun KK hK => ?_) AllReadyH.nil
        rw [if_pos (by rfl)]
        have U5 : Up w2 w5 := H4.out.2.2.2.2.trans u5
        have ow := ownsRow_up H2.out.1.row U5
        rw [HV.out, HP.out.2.1] at ow
        refine wp_append_at _ _ _ 65 rfl 0 73 Try.t73 (.agg #[.int .i64 0, .slice none 0 0]) 2 32 Try.underlying65 hie rfl rfl rfl rfl (by decide) (.slice pa S.pend.length pc) S.pend.length (wrCells A.ws) rfl ow ⟨nb, 0, none⟩ 1 1 [.int .i64 (i : Int), .slice (some ⟨g, 0, none⟩) 512 gc] rfl rfl ?c1 ?c2 ?c3 ?c4 ?c5 ?_
        case c1 =>
          intro j u hu
          rw [Addr.add_lit, Nat.zero_add, cell_of_row _ _ _ _ _ _ kn]
          simpa using hu
        case c2 =>
          intro u hu
          simp at hu
          rcases hu with rfl | rfl <;> rfl
        case c3 => have := HP.out.1; unfold maxLen; omega
        case c4 => have := HP.out.1; omega
        case c5 => exact Nat.zero_le _
        intro v' w6 ho6 hg6 hat
        obtain ⟨va', vn', vc', rfl⟩ := own_slice3 ho6
        have ho7 := ho6
        have hg7 := hg6
        have hat7 := hat
        rw [← HP.out.2.1] at ho7
        rw [← HV.out] at hg7 hat7
        have H6 : Hid _ := H2.out.1.pushed U5 H4.out.1 (H4.out.2.1.up u5) H4.out.2.2.1 H4.out.2.2.2.1 HP.out.2.2 ho7 hg7 hat7
        have hs6 : w6.heap[sb]? = w2.heap[sb]? := (hg7.block sb (Nat.lt_of_lt_of_le (heap_at H2.out.1.blk) U5.size) (fun e => H2.out.1.a4.1 e.symm)).trans (U5.block sb (heap_at H2.out.1.blk))
        have hs7 := hs6.trans H2.out.1.blk
        have ks6 : w6.cell? ⟨sb, 2, none⟩ = some A.pv := heap_cell hs7 rfl
        have kz6 : w6.frozen? ⟨sb, 2, none⟩ = false := heap_fz hs7
        have HFK : Hid (FK K W w2) := H2.out.2
        clear hs6 hs7 ho7 hg7 hat7 ho6 hg6 hat ow U5
        refine hK.out _ _ trivial (fun hHeld => ?_)
        clear hK KK
        try simp only [Act.put, List.setIfInBounds_toArray, List.set_cons_zero, List.set_cons_succ]
        refine wpAnyH_take (i := 11) (v := ?_) (by simp only [List.getElem?_toArray, List.getElem?_cons_succ, List.getElem?_cons_zero]; rfl) (by kernel_rfl) (by kernel_rfl) (by kernel_rfl) (by intro _ _ _ h; exact h) (Or.inl ⟨by rfl, ?_⟩) (by assumption) ?_
        rotate_left
        · (intro w hSw; (try dsimp only at hSw); go_simp <;> with_reducible rfl)
        try simp only [Act.put, List.setIfInBounds_toArray, List.set_cons_zero, List.set_cons_succ]
        refine wpAnyH_take (i := 12) (v := ?_) (by simp only [List.getElem?_toArray, List.getElem?_cons_succ, List.getElem?_cons_zero]; rfl) (by kernel_rfl) (by kernel_rfl) (by kernel_rfl) (by intro _ _ _ h; exact h) (Or.inl ⟨by rfl, ?_⟩) (by assumption) ?_
        rotate_left
        · (intro w hSw; (try dsimp only at hSw); go_simp <;> with_reducible rfl)
        try simp only [Act.put, List.setIfInBounds_toArray, List.set_cons_zero, List.set_cons_succ]
        refine wpAnyH_ready (rs := [13]) (by kernel_rfl) (by simp) ?_
        refine AllReadyH.cons (by simp only [List.getElem?_toArray, List.getElem?_cons_succ, List.getElem?_cons_zero]; rfl) (fun KK hK => ?_) AllReadyH.nil
        go_simp
        refine hK.out _ _ trivial (fun _ => ?_)
        clear hK KK
        try simp only [Act.put, List.setIfInBounds_toArray, List.set_cons_zero, List.set_cons_succ]
        refine wpAnyH_done (by kernel_rfl) ?_ _
        clear ks6 kz6
        go_wp2_with fail
        go_ret
        exact ⟨by first | rfl | (simp; done), HF.out _ ⟨_, H6.out.1⟩, HFK.out.trans H6.out.2⟩
      · skip
        go_simp
        have u5 : Up w4 (w4.alloc (Obj.cells #[.int .i64 (i : Int), .slice (some ⟨g, 0, none⟩) 512 gc] 73)) := (Up.refl w4).alloc _
        have kn : (w4.alloc (Obj.cells #[.int .i64 (i : Int), .slice (some ⟨g, 0, none⟩) 512 gc] 73)).heap[w4.heap.size]? = some (.cells #[.int .i64 (i : Int), .slice (some ⟨g, 0, none⟩) 512 gc] 73 (0, 0)) := heap_alloc_new w4 _
        generalize World.alloc w4 _ = w5 at u5 kn ⊢
        generalize w4.heap.size = nb at kn ⊢
        refine hK.out _ _ trivial (fun hHeld => ?_)
        clear hK KK
        try simp only [Act.put, List.setIfInBounds_toArray, List.set_cons_zero, List.set_cons_succ]
        refine wpAnyH_ready (rs := [4]) (by kernel_rfl) (by simp) ?_
        refine AllReadyH.cons (by simp only [List.getElem?_toArray, List.getElem?_cons_succ, List.getElem?_cons_zero]; rfl) (fun KK hK => ?_) AllReadyH.nil
        have kl := HKB.out w5 (H4.out.2.2.2.2.trans u5)
        go_simp
        refine hK.out _ _ trivial (fun hHeld => ?_)
        clear hK KK kl
        try simp only [Act.put, List.setIfInBounds_toArray, List.set_cons_zero, List.set_cons_succ]
        refine wpAnyH_ready (rs := [10]) (by kernel_rfl) (by simp) ?_
        refine AllReadyH.cons (by simp only [List.getElem?_toArray, List.getElem?_cons_succ, List.getElem?_cons_zero]; rfl) (fun KK hK => ?_) AllReadyH.nil
        rw [if_pos (by rfl)]
        have U5 : Up w2 w5 := H4.out.2.2.2.2.trans u5
        have ow := ownsRow_up H2.out.1.row U5
        rw [HV.out, HP.out.2.1] at ow
        refine wp_append_at _ _ _ 65 rfl 0 73 Try.t73 (.agg #[.int .i64 0, .slice none 0 0]) 2 32 Try.underlying65 hie rfl rfl rfl rfl (by decide) (.slice pa S.pend.length pc) S.pend.length (wrCells A.ws) rfl ow ⟨nb, 0, none⟩ 1 1 [.int .i64 (i : Int), .slice (some ⟨g, 0, none⟩) 512 gc] rfl rfl ?c1 ?c2 ?c3 ?c4 ?c5 ?_
        case c1 =>
          intro j u hu
          rw [Addr.add_lit, Nat.zero_add, cell_of_row _ _ _ _ _ _ kn]
          simpa using hu
        case c2 =>
          intro u hu
          simp at hu
          rcases hu with rfl | rfl <;> rfl
        case c3 => have := HP.out.1; unfold maxLen; omega
        case c4 => have := HP.out.1; omega
        case c5 => exact Nat.zero_le _
        intro v' w6 ho6 hg6 hat
        obtain ⟨va', vn', vc', rfl⟩ := own_slice3 ho6
        have ho7 := ho6
        have hg7 := hg6
        have hat7 := hat
        rw [← HP.out.2.1] at ho7
        rw [← HV.out] at hg7 hat7
        have H6 : Hid _ := H2.out.1.pushed U5 H4.out.1 (H4.out.2.1.up u5) H4.out.2.2.1 H4.out.2.2.2.1 HP.out.2.2 ho7 hg7 hat7
        have hs6 : w6.heap[sb]? = w2.heap[sb]? := (hg7.block sb (Nat.lt_of_lt_of_le (heap_at H2.out.1.blk) U5.size) (fun e => H2.out.1.a4.1 e.symm)).trans (U5.block sb (heap_at H2.out.1.blk))
        have hs7 := hs6.trans H2.out.1.blk
        have ks6 : w6.cell? ⟨sb, 2, none⟩ = some A.pv := heap_cell hs7 rfl
        have kz6 : w6.frozen? ⟨sb, 2, none⟩ = false := heap_fz hs7
        have HFK : Hid (FK K W w2) := H2.out.2
        clear hs6 hs7 ho7 hg7 hat7 ho6 hg6 hat ow U5
        refine hK.out _ _ trivial (fun hHeld => ?_)
        clear hK KK
        try simp only [Act.put, List.setIfInBounds_toArray, List.set_cons_zero, List.set_cons_succ]
        refine wpAnyH_take (i := 11) (v := ?_) (by simp only [List.getElem?_toArray, List.getElem?_cons_succ, List.getElem?_cons_zero]; rfl) (by kernel_rfl) (by kernel_rfl) (by kernel_rfl) (by intro _ _ _ h; exact h) (Or.inl ⟨by rfl, ?_⟩) (by assumption) ?_
        rotate_left
        · (intro w hSw; (try dsimp only at hSw); go_simp <;> with_reducible rfl)
        try simp only [Act.put, List.setIfInBounds_toArray, List.set_cons_zero, List.set_cons_succ]
        refine wpAnyH_take (i := 12) (v := ?_) (by simp only [List.getElem?_toArray, List.getElem?_cons_succ, List.getElem?_cons_zero]; rfl) (by kernel_rfl) (by kernel_rfl) (by kernel_rfl) (by intro _ _ _ h; exact h) (Or.inl ⟨by rfl, ?_⟩) (by assumption) ?_
        rotate_left
        · (intro w hSw; (try dsimp only at hSw); go_simp <;> with_reducible rfl)
        try simp only [Act.put, List.setIfInBounds_toArray, List.set_cons_zero, List.set_cons_succ]
        refine wpAnyH_ready (rs := [13]) (by kernel_rfl) (by simp) ?_
        refine AllReadyH.cons (by simp only [List.getElem?_toArray, List.getElem?_cons_succ, List.getElem?_cons_zero]; rfl) (fun KK hK => ?_) AllReadyH.nil
        go_simp
        refine hK.out _ _ trivial (fun _ => ?_)
        clear hK KK
        try simp only [Act.put, List.setIfInBounds_toArray, List.set_cons_zero, List.set_cons_succ]
        refine wpAnyH_done (by kernel_rfl) ?_ _
        clear ks6 kz6
        go_wp2_with fail
        go_ret
        exact ⟨by first | rfl | (simp; done), HF.out _ ⟨_, H6.out.1⟩, HFK.out.trans H6.out.2⟩
end Go.Proofs.Ytekffilokdmfgaa
