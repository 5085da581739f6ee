/- Sched: beside what is kept; begun, made. -/
import Derived.Test.YtakciepfckdpfaaScL
namespace Go.Proofs.Ytakciepfckdpfaa
open Go.RowKit
set_option linter.unusedVariables false
set_option linter.unusedSimpArgs false
variable {w w' W : World} {K K' : Nat → Prop} {sb sg sc : Nat} {rv rv' : Value} {S S' : Sd}
/-- a sched, beside all that was there in W and the blocks of K -/
structure Sx (W : World) (K : Nat → Prop) (sb : Nat) (S : Sd) (w : World) : Prop where
  st : SdAt K w sb S
  up : Up W w
  old : ∀ b, b < W.heap.size → K b
theorem FK.upOf {W : World} (u : Up W w) (h : FK K w w') (ho : ∀ b, b < W.heap.size → K b) : Up W w' :=
  ⟨h.os.trans u.os, h.output.trans u.output, Nat.le_trans u.size h.size, fun b hb => (h.block b (Nat.lt_of_lt_of_le hb u.size) (ho b hb)).trans (u.block b hb)⟩
theorem Sx.next (h : Sx W K sb S w) (h2 : SdAt K w' sb S') (f : FK K w w') : Sx W K sb S' w' := ⟨h2, f.upOf h.up h.old, h.old⟩
theorem Sx.more (h : Sx W K sb S w) (u : Up w w') : Sx W K sb S w' := ⟨h.st.up u, h.up.trans u, h.old⟩
/-- new blocks are let into K -/
theorem Sx.let' (h : Sx W K sb S w) (u : Up w w') (hk : ∀ b, K' b → K b ∨ (w.heap.size ≤ b ∧ b < w'.heap.size)) (ho : ∀ b, K b → K' b) : Sx W K' sb S w' := ⟨h.st.upK u hk, h.up.trans u, fun b hb => ho b (h.old b hb)⟩
theorem Sx.kb (h : Sx W K sb S w) : ∀ b, K b → b < w.heap.size := h.st.kb
/-- a block of K that is not W's may change -/
theorem Sx.fr {b : Nat} (h : Sx W K sb S w) (u : Fr b w w') (hb : K b) (hw : W.heap.size ≤ b) : Sx W K sb S w' := ⟨h.st.fr u hb, Fr.up h.up hw u, h.old⟩
theorem Sx.add (h : Sx W K sb S w) {id : Int} (hid : I64 id) : Calls Try.prog 16 #[.pointer (some ⟨sb, 0, none⟩), .int .i64 id] w fun e w' => e = .returned (.int .i64 (S.addE id)) ∧ Sx W K sb (S.add id) w' ∧ FK K w w' :=
  (add_any h.st hid).mono fun e w' ⟨h1, h2, h3⟩ => ⟨h1, h.next h2 h3, h3⟩
theorem Sx.remove (h : Sx W K sb S w) {id : Int} : Calls Try.prog 17 #[.pointer (some ⟨sb, 0, none⟩), .int .i64 id] w fun e w' => e = .returned (.int .i64 (S.remE id)) ∧ Sx W K sb (S.rem id) w' ∧ FK K w w' :=
  (remove_any h.st).mono fun e w' ⟨h1, h2, h3⟩ => ⟨h1, h.next h2 h3, h3⟩
theorem Sx.ready (h : Sx W K sb S w) {id : Int} {b : Bool} : Calls Try.prog 13 #[.pointer (some ⟨sb, 0, none⟩), .int .i64 id, .bool b] w fun e w' => e = .returned (.int .i64 (S.remE id)) ∧ Sx W K sb (S.ready id b) w' ∧ FK K w w' :=
  (ready_any h.st).mono fun e w' ⟨h1, h2, h3⟩ => ⟨h1, h.next h2 h3, h3⟩
theorem Sx.begin (h : Sx W K sb S w) {s : Int} : Calls Try.prog 11 #[.pointer (some ⟨sb, 0, none⟩), .int .i64 s] w fun e w' => e = .returned (.tuple #[.int .i64 (S.begN s), .int .i64 (S.begE s)]) ∧ Sx W K sb (S.begin s) w' ∧ FK K w w' :=
  (begin_any h.st).mono fun e w' ⟨h1, h2, h3⟩ => ⟨h1, h.next h2 h3, h3⟩
theorem Sx.done (h : Sx W K sb S w) {s : Int} : Calls Try.prog 12 #[.pointer (some ⟨sb, 0, none⟩), .int .i64 s] w fun e w' => e = .returned (.tuple #[.int .i64 (S.endN s), .int .i64 (S.endE s)]) ∧ Sx W K sb (S.done s) w' ∧ FK K w w' :=
  (end_any h.st).mono fun e w' ⟨h1, h2, h3⟩ => ⟨h1, h.next h2 h3, h3⟩
theorem Sx.round (h : Sx W K sb S w) : Calls Try.prog 14 #[.pointer (some ⟨sb, 0, none⟩)] w fun e w' => ∃ v, e = .returned v ∧ Nw w w' v (S.rnd.map Mem.id) ∧ Sx W K sb S w' :=
  (round_any h.st).mono fun e w' ⟨v, h1, h2⟩ => ⟨v, h1, h2, h.more h2.up⟩
theorem Sx.new {k : Nat} (W : World) (h1 : 1 ≤ k) (h2 : k ≤ 8) : Calls Try.prog 23 #[.int .i64 (k : Int)] W fun e w' => ∃ sb, e = .returned (.tuple #[.pointer (some ⟨sb, 0, none⟩), .int .i64 0]) ∧ Sx W (fun b => b < W.heap.size) sb ⟨[], List.replicate k ⟨0, false⟩⟩ w' :=
  (new_ok (K := fun b => b < W.heap.size) h1 h2 (fun b hb => hb)).mono fun e w' ⟨sb, q1, q2, q3, _⟩ => ⟨sb, q1, q2, q3, fun b hb => hb⟩
def bgS : List Mem := [⟨0, false⟩, ⟨0, false⟩]
def bg0 : Sd := ⟨[], [⟨0, false⟩, ⟨0, false⟩]⟩
def bg1 : Sd := ⟨[⟨5, false⟩], [⟨0, false⟩, ⟨0, false⟩]⟩
def bg2 : Sd := ⟨[⟨5, false⟩, ⟨7, false⟩], [⟨0, false⟩, ⟨0, false⟩]⟩
def bg3 : Sd := ⟨[⟨5, false⟩, ⟨7, true⟩], [⟨0, false⟩, ⟨0, false⟩]⟩
def bg4 : Sd := ⟨[⟨5, false⟩, ⟨7, true⟩], [⟨0, false⟩, ⟨7, true⟩]⟩
def bg5 : Sd := ⟨[⟨5, false⟩, ⟨7, true⟩], [⟨0, false⟩, ⟨0, false⟩]⟩
theorem i64s {x : Int} (h1 : -1000 ≤ x) (h2 : x ≤ 1000) : I64 x := ⟨by omega, by omega⟩
set_option maxRecDepth 100000 in
set_option maxHeartbeats 1000000 in
theorem begun_any (W : World) : Calls Try.prog 8 #[] W fun e w' => e = .returned (.bool true) ∧ Up W w' := by
  obtain ⟨K, hK⟩ : ∃ K : Nat → Prop, K = fun b => b < W.heap.size := ⟨_, rfl⟩
  have H0 : Hid (Calls Try.prog 23 #[.int .i64 2] W fun e w' => ∃ sb, e = .returned (.tuple #[.pointer (some ⟨sb, 0, none⟩), .int .i64 0]) ∧ Sx W K sb bg0 w') := by rw [hK]; exact Sx.new (k := 2) W (by decide) (by decide)
  have H1 : Hid (∀ w sb, Sx W K sb bg0 w → Calls Try.prog 16 #[.pointer (some ⟨sb, 0, none⟩), .int .i64 5] w fun e w' => e = .returned (.int .i64 0) ∧ Sx W K sb bg1 w') := fun w sb h => (h.add (id := 5) (i64s (by decide) (by decide))).mono fun e w' h => ⟨h.1, h.2.1⟩
  have H2 : Hid (∀ w sb, Sx W K sb bg1 w → Calls Try.prog 16 #[.pointer (some ⟨sb, 0, none⟩), .int .i64 7] w fun e w' => e = .returned (.int .i64 0) ∧ Sx W K sb bg2 w') := fun w sb h => (h.add (id := 7) (i64s (by decide) (by decide))).mono fun e w' h => ⟨h.1, h.2.1⟩
  have H3 : Hid (∀ w sb, Sx W K sb bg2 w → Calls Try.prog 13 #[.pointer (some ⟨sb, 0, none⟩), .int .i64 7, .bool true] w fun e w' => e = .returned (.int .i64 0) ∧ Sx W K sb bg3 w') := fun w sb h => (h.ready (id := 7) (b := true)).mono fun e w' h => ⟨h.1, h.2.1⟩
  have H4 : Hid (∀ w sb, Sx W K sb bg3 w → Calls Try.prog 11 #[.pointer (some ⟨sb, 0, none⟩), .int .i64 1] w fun e w' => e = .returned (.tuple #[.int .i64 7, .int .i64 0]) ∧ Sx W K sb bg4 w') := fun w sb h => (h.begin (s := 1)).mono fun e w' h => ⟨h.1, h.2.1⟩
  have H5 : Hid (∀ w sb, Sx W K sb bg4 w → Calls Try.prog 11 #[.pointer (some ⟨sb, 0, none⟩), .int .i64 0] w fun e w' => e = .returned (.tuple #[.int .i64 0, .int .i64 134]) ∧ Sx W K sb bg4 w') := fun w sb h => (h.begin (s := 0)).mono fun e w' h => ⟨h.1, h.2.1⟩
  have H6 : Hid (∀ w sb, Sx W K sb bg4 w → Calls Try.prog 12 #[.pointer (some ⟨sb, 0, none⟩), .int .i64 1] w fun e w' => e = .returned (.tuple #[.int .i64 7, .int .i64 0]) ∧ Sx W K sb bg5 w') := fun w sb h => (h.done (s := 1)).mono fun e w' h => ⟨h.1, h.2.1⟩
  clear hK
  go_enter Try.func8, Try.ntmps8
  go_wp2_with fail
  refine Calls.mono H0.out ?_
  rintro e w1 ⟨sb, rfl, h⟩
  have J : Hid _ := H1.out w1 sb h
  clear h H0 H1
  go_wp2_with fail
  refine Calls.mono J.out ?_
  rintro e w2 ⟨rfl, h⟩
  have J2 : Hid _ := H2.out w2 sb h
  clear h H2 J
  go_wp2_with fail
  refine Calls.mono J2.out ?_
  rintro e w3 ⟨rfl, h⟩
  have J3 : Hid _ := H3.out w3 sb h
  clear h H3 J2
  go_wp2_with fail
  refine Calls.mono J3.out ?_
  rintro e w4 ⟨rfl, h⟩
  have J4 : Hid _ := H4.out w4 sb h
  clear h H4 J3
  go_wp2_with fail
  refine Calls.mono J4.out ?_
  rintro e w5 ⟨rfl, h⟩
  have J5 : Hid _ := H5.out w5 sb h
  clear h H5 J4
  go_wp2_with fail
  refine Calls.mono J5.out ?_
  rintro e w6 ⟨rfl, h⟩
  have J6 : Hid _ := H6.out w6 sb h
  clear h H6 J5
  go_wp2_with fail
  refine Calls.mono J6.out ?_
  rintro e w7 ⟨rfl, h⟩
  have J7 : Hid (Up W w7) := h.up
  clear h J6
  go_wp2_with fail
  go_ret
  exact ⟨by first | rfl | (simp; done), J7.out⟩
/-- the numbers from 0 on, all ready -/
def allR (n : Nat) : List Mem := (List.range n).map (fun (j : Nat) => ⟨(j : Int), true⟩)
theorem allR_succ (n : Nat) : allR (n + 1) = allR n ++ [⟨(n : Int), true⟩] := by simp [allR, List.range_succ]
theorem allR_len (n : Nat) : (allR n).length = n := by simp [allR]
theorem at_end {l : List Mem} {id : Int} {b : Bool} (h : ∀ m ∈ l, m.id ≠ id) : (l ++ [(⟨id, b⟩ : Mem)]).findIdx (fun m : Mem => m.id == id) = l.length := by
  refine findIdx_hit (p := fun m : Mem => m.id == id) (y := ⟨id, b⟩) (by rw [List.getElem?_append_right (Nat.le_refl _), Nat.sub_self]; rfl) (by simp) (fun j z hj hz => ?_)
  rw [List.getElem?_append_left hj] at hz
  have := h z (List.mem_of_getElem? hz)
  simpa using this
theorem at_none {l : List Mem} {id : Int} (h : ∀ m ∈ l, m.id ≠ id) : l.findIdx (fun m => m.id == id) = l.length :=
  findIdx_none (p := fun m : Mem => m.id == id) fun j z hz => by simpa using h z (List.mem_of_getElem? hz)
theorem Sd.add_new {id : Int} (h0 : 0 ≤ id) (h : ∀ m ∈ S.rnd, m.id ≠ id) (hl : S.rnd.length < 64) : S.addE id = 0 ∧ S.add id = { S with rnd := S.rnd ++ [⟨id, false⟩] } := by
  have e : S.addE id = 0 := by
    unfold Sd.addE Sd.at
    rw [if_neg (by omega), at_none h, if_neg (by omega), if_neg (by omega)]
  exact ⟨e, if_pos e⟩
theorem Sd.ready_last {l : List Mem} {id : Int} {b c : Bool} (hr : S.rnd = l ++ [⟨id, b⟩]) (h : ∀ m ∈ l, m.id ≠ id) : S.remE id = 0 ∧ S.ready id c = { S with rnd := l ++ [⟨id, c⟩] } := by
  have e0 : S.at id = l.length := by unfold Sd.at; rw [hr, at_end h]
  have e : S.remE id = 0 := by
    unfold Sd.remE
    rw [e0, hr, if_pos (by simp)]
  refine ⟨e, ?_⟩
  unfold Sd.ready
  rw [if_pos e, e0, hr]
  simp
theorem allR_ne {n : Nat} {m : Mem} (h : m ∈ allR n) : m.id ≠ (n : Int) := by
  obtain ⟨j, hj, rfl⟩ := List.mem_map.1 h
  have := List.mem_range.1 hj
  simp
  omega
set_option maxRecDepth 100000 in
set_option maxHeartbeats 1000000 in
theorem made_any {k n : Nat} (W : World) (h1 : 1 ≤ k) (h2 : k ≤ 8) (hn : n ≤ 60) :
    Calls Try.prog 10 #[.int .i64 (k : Int), .int .i64 (n : Int)] W fun e w' => ∃ sb, e = .returned (.pointer (some ⟨sb, 0, none⟩)) ∧ Sx W (fun b => b < W.heap.size) sb ⟨allR n, List.replicate k ⟨0, false⟩⟩ w' := by
  obtain ⟨K, hK⟩ : ∃ K : Nat → Prop, (fun b => b < W.heap.size) = K := ⟨_, rfl⟩
  have H0 : Hid (Calls Try.prog 23 #[.int .i64 (k : Int)] W fun e w' => ∃ sb, e = .returned (.tuple #[.pointer (some ⟨sb, 0, none⟩), .int .i64 0]) ∧ Sx W K sb ⟨allR 0, List.replicate k ⟨0, false⟩⟩ w') := by rw [← hK]; exact Sx.new W h1 h2
  rw [hK]
  obtain ⟨L, hL⟩ : ∃ L : List Mem, List.replicate k ⟨0, false⟩ = L := ⟨_, rfl⟩
  rw [hL] at H0 ⊢
  have H1 : Hid (∀ w sb i, i < n → Sx W K sb ⟨allR i, L⟩ w → Calls Try.prog 16 #[.pointer (some ⟨sb, 0, none⟩), .int .i64 (i : Int)] w fun e w' => e = .returned (.int .i64 0) ∧ Sx W K sb ⟨allR i ++ [⟨(i : Int), false⟩], L⟩ w') := fun w sb i hi h => by
    have := Sd.add_new (S := ⟨allR i, L⟩) (id := (i : Int)) (by omega) (fun m hm => allR_ne hm) (by rw [allR_len]; omega)
    refine (h.add (id := (i : Int)) (i64s (by omega) (by omega))).mono fun e w' h => ?_
    rw [this.1, this.2] at h
    exact ⟨h.1, h.2.1⟩
  have H2 : Hid (∀ w sb i, i < n → Sx W K sb ⟨allR i ++ [⟨(i : Int), false⟩], L⟩ w → Calls Try.prog 13 #[.pointer (some ⟨sb, 0, none⟩), .int .i64 (i : Int), .bool true] w fun e w' => e = .returned (.int .i64 0) ∧ Sx W K sb ⟨allR (i + 1), L⟩ w') := fun w sb i hi h => by
    have := Sd.ready_last (S := ⟨allR i ++ [⟨(i : Int), false⟩], L⟩) (l := allR i) (id := (i : Int)) (c := true) rfl (fun m hm => allR_ne hm)
    refine (h.ready (id := (i : Int)) (b := true)).mono fun e w' h => ?_
    rw [this.1, this.2] at h
    rw [allR_succ]
    exact ⟨h.1, h.2.1⟩
  clear hK hL
  go_enter Try.func10, Try.ntmps10
  go_wp2_with fail
  refine Calls.mono H0.out ?_
  rintro e w1 ⟨sb, rfl, h⟩
  have HS : Hid _ := h
  clear h H0
  go_wp2_with fail
  go_loopw [7, 8, 9] (fun I _ _ wr => ∃ i : Nat, i ≤ n ∧ I = .int .i64 (i : Int) ∧ Hid (Sx W K sb ⟨allR i, L⟩ wr)) (fun I _ _ _ => n - (intOf I).toNat)
  case atStart => exact ⟨0, by omega, rfl, HS⟩
  case round =>
    clear HS
    obtain ⟨i, hi, rfl, HS⟩ := hrel
    by_cases hlt : i < n
    · have d1 : (i : Int) < (n : Int) := by omega
      have J : Hid _ := H1.out wr sb i hlt HS.out
      clear HS
      go_wp2_with fail
      refine Calls.mono J.out ?_
      rintro e w2 ⟨rfl, h⟩
      have J2 : Hid _ := H2.out w2 sb i hlt h
      clear h J
      go_wp2_with fail
      refine Calls.mono J2.out ?_
      rintro e w3 ⟨rfl, h⟩
      have J3 : Hid _ := h
      clear h J2
      go_wp2_with fail
      refine ⟨⟨i + 1, by omega, by first | rfl | (simp; done), J3⟩, ?_⟩
      simp [intOf]
      omega
    · have d1 : ¬ (i : Int) < (n : Int) := by omega
      have e1 : i = n := by omega
      rw [e1] at HS
      clear H1 H2
      go_wp2_with fail
      go_ret
      exact ⟨_, by first | rfl | (simp; done), HS.out⟩
end Go.Proofs.Ytakciepfckdpfaa
