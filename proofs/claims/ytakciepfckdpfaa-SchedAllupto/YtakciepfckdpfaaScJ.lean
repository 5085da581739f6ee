/- Sched: End, Begin, Round. -/
import Derived.Test.YtakciepfckdpfaaScI
import Derived.StillTailTactics
namespace Go.Proofs.Ytakciepfckdpfaa
open Go.RowKit
set_option linter.unusedVariables false
set_option linter.unusedSimpArgs false
theorem still_of_quiet {P : Program} {ops : Array Oper} {w0 : World} {Q : Act → Prop} : ∀ (l : List Oper) (a : Act), wpQuiet P ops (fun w' => w' = w0) Q l a → wpStill P ops w0 Q l a
  | [], a, h => h
  | o :: rest, a, h => by
    unfold wpQuiet at h
    unfold wpStill
    split
    · rename_i hw
      rw [if_pos hw] at h
      obtain ⟨v, h1, h2⟩ := h
      have h3 := h1 w0 rfl
      have h4 := still_of_quiet rest _ h2
      unfold Oper.quietAt at h3
      unfold Oper.still
      generalize (execOp a.eval o).run P w0 = r at *
      cases r with
      | ok n w' =>
        cases n <;> simp only [Oper.quietUpon] at h3 <;> simp only [Oper.stillUpon]
        case value u =>
          obtain ⟨e1, e2⟩ := h3
          subst e2
          exact ⟨e1, h4⟩
        case skip =>
          obtain ⟨e1, e2⟩ := h3
          subst e2
          exact ⟨e1, h4⟩
        case enter f args =>
          exact ⟨h3.1, v, h3.2, h4⟩
      | _ => simp only [Oper.quietUpon] at h3
    · rename_i hw
      rw [if_neg hw] at h
      exact still_of_quiet rest _ h
theorem wp_still2 {P : Program} {id : Nat} {Q : Exit → Act → World → Prop} {a : Act} {w : World} {l : List Oper} (n : Nat) (hm : P.follows .mixedOrders = true) (hB : Region.lexTailB .any l.toArray n = true)
    (h : ∀ w1, w1 = w.drew → wpQuiet P l.toArray (fun w' => w' = w1) (fun a' => wpList P l.toArray Q (l.drop n) a' w1) (l.take n) a) : (Code.region id l.toArray true).wp P Q a w :=
  wp_region_still_tail n hm hB (still_of_quiet _ _ (h w.drew rfl))
theorem wp_append_at {P : Program} (w : World) {o : Oper} {a : Act} {K : Act → World → Prop} {Q : Exit → Act → World → Prop} (s x : Operand) (t : TypeId)
    (ho : o.op = .call { callee := .builtin .append, args := #[s, x], argTypes := #[t, t] })
    (base : Nat) (e : TypeId) (i : TypeInfo) (z : Value) (size bytes : Nat) (ht : P.underlying t = some (.slice e)) (hi : P.info? e = some i) (hz : i.zero = some z)
    (hsize : i.size = size) (hby : i.bytes = bytes) (hzs : z.cells.size = size) (hsz : 0 < size)
    (v : Value) (n : Nat) (xs : List Value) (hs : a.eval s = v) (hown : w.ownsRow base e size v n xs)
    (ad : Addr) (m c : Nat) (news : List Value) (hx : a.eval x = .slice (some ad) m c) (hl : news.length = m * size) (hnews : ∀ j u, news[j]? = some u → w.cell? (ad.add j) = some u) (h1 : ∀ u ∈ news, u.oneCell' = true)
    (h63 : n + m ≤ maxLen) (hbytes : (n + m) * bytes ≤ 140737488355328) (hbase : base ≤ w.heap.size)
    (h : ∀ v' w', w'.ownsRow base e size v' (n + m) (xs ++ news) → w.grownBy w' v.ownBlock → (v'.ownBlock = v.ownBlock ∨ v'.ownBlock = some w.heap.size) → K (a.put o.dst v') w') : o.wp P a w K Q := by
  obtain ⟨v', w', hr, h2, h3, _, h5⟩ := run_append_own_at (P := P) w base t o.type e i z size bytes ht hi hz hsize hby hzs hsz v n xs hown ad m c news hl hnews h1 h63 hbytes hbase
  unfold Oper.wp execOp
  simp only [ho, resolve, invoke, builtin, Sem.run_bind, Sem.run_pure, Result.andThen_ok, List.map_toArray, List.map_cons, List.map_nil, hs, hx, hr]
  exact h v' w' h2 h3 h5
variable {w w' W : World} {K K' : Nat → Prop} {sb sg sc : Nat} {rv rv' : Value} {S S' : Sd}
/-- a slot has changed -/
theorem SdR.setSlot {k : Nat} {y : Mem} (h : SdR K w sb sg sc rv S) (hk : k < S.slo.length) : w.there sg (k * 2) 2 ∧ SdR K (w.setCells sg (k * 2) y.cells) sb sg sc rv { S with slo := S.slo.set k y } ∧ FK K w (w.setCells sg (k * 2) y.cells) := by
  have hf : Fr sg w (w.setCells sg (k * 2) y.cells) := fr_setCells sg _ _ w
  refine ⟨fun j hj => own_there h.slo hk j hj, ?_⟩
  refine h.chg (w' := w.setCells sg (k * 2) y.cells) (rv' := rv) (S' := { S with slo := S.slo.set k y }) hf.os hf.output hf.size (fun c h1 h2 h3 h4 => hf.block c h1 h3) (fun c e => Or.inl e) ?_ ?_ ?_ h.len
  · show _ = some (Obj.cells #[rv, .slice _ (S.slo.set k y).length sc] _ _)
    rw [List.length_set]
    exact (hf.block sb (heap_at h.blk) h.a1).trans h.blk
  · show World.ownsRow _ 0 _ 2 (.slice _ (S.slo.set k y).length sc) (S.slo.set k y).length (memCells (S.slo.set k y))
    rw [List.length_set]
    exact own_set2 h.slo rfl hk
  · exact ownsRow_block h.row (fun g hg => hf.block g (own_lt h.row hg) (fun e => h.a3 (e ▸ hg)))
theorem Sd.slot_some {s : Int} {t : Mem} (h : S.slot s = some t) : 0 ≤ s ∧ ∃ k : Nat, s = (k : Int) ∧ S.slo[k]? = some t := by
  unfold Sd.slot at h
  by_cases h0 : 0 ≤ s
  · rw [if_pos h0] at h
    exact ⟨h0, s.toNat, by omega, h⟩
  · rw [if_neg h0] at h
    cases h
theorem Sd.slot_none {s : Int} (h : S.slot s = none) : ¬ (0 ≤ s ∧ s < (S.slo.length : Int)) := by
  unfold Sd.slot at h
  rintro ⟨h0, h1⟩
  rw [if_pos h0, List.getElem?_eq_none_iff] at h
  omega
set_option maxRecDepth 100000 in
set_option maxHeartbeats 1000000 in
theorem end_any (h : SdAt K W sb S) {s : Int} :
    Calls Try.prog 12 #[.pointer (some ⟨sb, 0, none⟩), .int .i64 s] W fun e w' => e = .returned (.tuple #[.int .i64 (S.endN s), .int .i64 (S.endE s)]) ∧ SdAt K w' sb (S.done s) ∧ FK K W w' := by
  obtain ⟨sg, sc, rv, h⟩ := h
  have HH : Hid (∀ w, w = W → Calls Try.prog 24 #[.pointer (some ⟨sb, 0, none⟩), .int .i64 s] w fun e w' => e = .returned (.bool (decide (0 ≤ s ∧ s < (S.slo.length : Int)))) ∧ w' = w) := fun w e => by subst e; exact has_any h
  cases hs : S.slot s with
  | none =>
    have e1 : S.endE s = 131 := by unfold Sd.endE; rw [hs]
    have e2 : S.endN s = 0 := if_neg (by rw [e1]; decide)
    have e3 : S.done s = S := if_neg (by rw [e1]; decide)
    rw [e1, e2, e3]
    rw [decide_eq_false (Sd.slot_none hs)] at HH
    have HR : Hid _ := h.refl
    clear h e1 e2 e3 hs
    go_enter Try.func12, Try.ntmps12
    go_wp2_with fail
    refine (HH.out _ rfl).mono ?_
    rintro e w1 ⟨rfl, hw⟩
    obtain rfl := hw.symm
    go_wp2_with fail
    go_ret2
    exact ⟨by first | rfl | (simp; done), HR.out⟩
  | some x =>
    obtain ⟨h0, k, rfl, hk⟩ := Sd.slot_some hs
    have hkl := (List.getElem?_eq_some_iff.1 hk).1
    rw [decide_eq_true (show 0 ≤ (k : Int) ∧ (k : Int) < (S.slo.length : Int) by omega)] at HH
    obtain ⟨xi, xr⟩ := x
    obtain ⟨c1, c2⟩ := h.scl
    have k1 := h.k1
    have k2 : W.cell? ⟨sg, k * 2, none⟩ = some (.int .i64 xi) := mem_range h.slo hk 0 _ rfl
    have k3 : W.cell? ⟨sg, k * 2 + 1, none⟩ = some (.bool xr) := mem_range h.slo hk 1 _ rfl
    have d1 : (k : Int) < (S.slo.length : Int) := by omega
    cases xr with
    | false =>
      have e1 : S.endE (k : Int) = 131 := by unfold Sd.endE; rw [hs]; rfl
      have e2 : S.endN (k : Int) = 0 := if_neg (by rw [e1]; decide)
      have e3 : S.done (k : Int) = S := if_neg (by rw [e1]; decide)
      rw [e1, e2, e3]
      have HR : Hid _ := h.refl
      clear h e1 e2 e3 hs hk
      generalize S.slo.length = n at *
      go_enter Try.func12, Try.ntmps12
      go_wp2_with fail
      refine (HH.out _ rfl).mono ?_
      rintro e w1 ⟨rfl, hw⟩
      obtain rfl := hw.symm
      go_wp2_with fail
      go_ret2
      exact ⟨by first | rfl | (simp; done), HR.out⟩
    | true =>
      have e1 : S.endE (k : Int) = 0 := by unfold Sd.endE; rw [hs]; rfl
      have e2 : S.endN (k : Int) = xi := by
        unfold Sd.endN
        rw [if_pos e1, Int.toNat_natCast, List.getD_eq_getElem?_getD, hk]
        rfl
      have e3 : S.done (k : Int) = { S with slo := S.slo.set k ⟨0, false⟩ } := by
        unfold Sd.done
        rw [if_pos e1, Int.toNat_natCast]
      rw [e1, e2, e3]
      have hset := h.setSlot (y := ⟨0, false⟩) hkl
      have HT : Hid (W.there sg (k * 2) 2) := hset.1
      have HR : Hid _ := And.intro (show SdAt K _ sb _ from ⟨_, _, _, hset.2.1⟩) hset.2.2
      clear h e1 e2 e3 hs hk hset
      generalize S.slo.length = n at *
      go_enter Try.func12, Try.ntmps12
      go_wp2_with fail
      refine (HH.out _ rfl).mono ?_
      rintro e w1 ⟨rfl, hw⟩
      obtain rfl := hw.symm
      go_wp2_with (refine wpList_store_mid rfl 60 _ _ rfl sg (k * 2) #[.int .i64 0, .bool false] rfl rfl HT.out (by kernel_rfl) (by simp [Value.oneCell']) ?_)
      go_ret2
      exact ⟨by first | rfl | (simp; done), HR.out⟩
end Go.Proofs.Ytakciepfckdpfaa
