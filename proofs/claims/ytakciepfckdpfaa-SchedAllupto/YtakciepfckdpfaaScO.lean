/- Sched: lists of numbers side by side with a sched. -/
import Derived.Test.YtakciepfckdpfaaWRn
namespace Go.Proofs.Ytakciepfckdpfaa
open Go.RowKit
set_option linter.unusedVariables false
set_option linter.unusedSimpArgs false
variable {w w' W : World} {K K' : Nat → Prop} {sb k : Nat} {v v' : Value} {l ids : List Int}
/-- a list of numbers, wherever it lies -/
structure Ln (w : World) (v : Value) (l : List Int) : Prop where
  at' : ∃ (aa : Option Addr) (ab ao c : Nat), v = .slice aa l.length c ∧ l.length ≤ c ∧ c ≤ 9223372036854775807 ∧ (0 < l.length → aa = some ⟨ab, ao, none⟩) ∧ ∀ k x, l[k]? = some x → w.cell? ⟨ab, ao + k, none⟩ = some (.int .i64 x)
theorem Ln.up (h : Ln w v l) (u : Up w w') : Ln w' v l := by
  obtain ⟨aa, ab, ao, c, h1, h2, h3, h4, h5⟩ := h.at'
  exact ⟨aa, ab, ao, c, h1, h2, h3, h4, fun k x hx => cell_up u (h5 k x hx)⟩
theorem Ln.of {base : Nat} (h : w.ownsRow base 3 1 v l.length (nums l)) : Ln w v l := by
  rcases own_cases h with ⟨hv, hn, _⟩ | ⟨g, cap, hv, h1, h2, _⟩
  · exact ⟨none, 0, 0, 0, by rw [hv, hn], by omega, by omega, fun h => by omega, fun k x hx => by have := (List.getElem?_eq_some_iff.1 hx).1; omega⟩
  · refine ⟨_, g, 0, cap, hv, h1, by unfold maxLen at h2; omega, fun _ => rfl, fun k x hx => ?_⟩
    have hk := (List.getElem?_eq_some_iff.1 hx).1
    rw [hv] at h
    rw [own_cell h k (by omega)]
    exact nums_at hx
set_option maxRecDepth 100000 in
set_option maxHeartbeats 1000000 in
/-- two lists that read the same -/
theorem same_yes {v1 v2 : Value} (h1 : Ln W v1 l) (h2 : Ln W v2 l) : Calls Try.prog 18 #[v1, v2] W fun e w' => e = .returned (.bool true) ∧ Up W w' := by
  obtain ⟨a1, b1, o1, c1, rfl, l1, m1, d1, k1⟩ := h1.at'
  obtain ⟨a2, b2, o2, c2, rfl, l2, m2, d2, k2⟩ := h2.at'
  have hnn : ((l.length : Int) == (l.length : Int)) = true := by simp
  clear h1 h2
  have H1 : Hid (0 < l.length → a1 = some ⟨b1, o1, none⟩) := d1
  have H2 : Hid (0 < l.length → a2 = some ⟨b2, o2, none⟩) := d2
  have H3 : Hid (∀ w, Up W w → ∀ k, k < l.length → ∃ x, w.cell? ⟨b1, o1 + k, none⟩ = some (.int .i64 x) ∧ w.cell? ⟨b2, o2 + k, none⟩ = some (.int .i64 x)) := fun w u k hk => ⟨_, cell_up u (k1 k _ (List.getElem?_eq_getElem hk)), cell_up u (k2 k _ (List.getElem?_eq_getElem hk))⟩
  have HU : Hid (Up W W) := Up.refl W
  clear d1 d2 k1 k2
  generalize l.length = n at *
  go_enter Try.func18, Try.ntmps18
  go_wp2_with fail
  go_loopw [5] (fun I wr => ∃ i : Nat, i ≤ n ∧ I = .int .i64 i ∧ Hid (Up W wr)) (fun I _ => n - (intOf I).toNat)
  case atStart => exact ⟨0, by omega, rfl, HU⟩
  case round =>
    clear HU
    obtain ⟨i, hi, rfl, HU⟩ := hrel
    by_cases hlt : i < n
    · have e1 : (i : Int) < (n : Int) := by omega
      obtain rfl := H1.out (by omega)
      obtain rfl := H2.out (by omega)
      obtain ⟨x, k1, k2⟩ := H3.out _ HU.out i hlt
      clear H1 H2 H3
      go_wp2_with fail
      go_quiet (fail)
      have HV : Hid (Up W (wr.drewN nq)) := HU.out.trans (Up.drewN wr nq)
      clear HU
      go_wp2_with fail
      refine ⟨⟨i + 1, by omega, by first | rfl | (simp; done), HV⟩, ?_⟩
      simp [intOf]
      try omega
    · have e1 : ¬ (i : Int) < (n : Int) := by omega
      clear H1 H2 H3
      go_wp2_with fail
      go_ret
      exact ⟨by first | rfl | (simp; done), HU.out⟩
/-- numbers, none of them ready -/
def unr (ids : List Int) : List Mem := ids.map (fun x => ⟨x, false⟩)
theorem unr_len : (unr ids).length = ids.length := by simp [unr]
theorem unr_app (x : Int) : unr (ids ++ [x]) = unr ids ++ [⟨x, false⟩] := by simp [unr]
theorem unr_erase (j : Nat) : unr (ids.eraseIdx j) = (unr ids).eraseIdx j := by unfold unr; rw [List.eraseIdx_eq_take_drop_succ, List.eraseIdx_eq_take_drop_succ, List.map_append, List.map_take, List.map_drop]
theorem unr_ids : (unr ids).map Mem.id = ids := by unfold unr; rw [List.map_map]; exact List.map_id'' (fun _ => rfl) _
theorem unr_out {id : Int} (h : id ∉ ids) : ∀ m ∈ unr ids, m.id ≠ id := by
  intro m hm e
  obtain ⟨x, hx, rfl⟩ := List.mem_map.1 hm
  exact h (e ▸ hx)
theorem unr_at {j : Nat} {id : Int} (hj : ids[j]? = some id) (hn : ids.Nodup) : (unr ids).findIdx (fun m => m.id == id) = j := by
  refine findIdx_hit (p := fun m : Mem => m.id == id) (y := ⟨id, false⟩) (by unfold unr; rw [List.getElem?_map, hj]; rfl) (by simp) (fun i z hi hz => ?_)
  unfold unr at hz
  rw [List.getElem?_map] at hz
  obtain ⟨x, hx, rfl⟩ := Option.map_eq_some_iff.1 hz
  have : x ≠ id := fun e => by
    subst e
    obtain ⟨h1, e1⟩ := List.getElem?_eq_some_iff.1 hj
    obtain ⟨h2, e2⟩ := List.getElem?_eq_some_iff.1 hx
    exact (List.pairwise_iff_getElem.1 hn) i j h2 h1 hi (e2.trans e1.symm)
  simpa using this
theorem kept_in {k j : Nat} {id : Int} (h0 : 0 ≤ id) (hj : ids[j]? = some id) (hn : ids.Nodup) :
    (⟨unr ids, offs k⟩ : Sd).addE id = 132 ∧ (⟨unr ids, offs k⟩ : Sd).add id = ⟨unr ids, offs k⟩ ∧ (⟨unr ids, offs k⟩ : Sd).remE id = 0 ∧ (⟨unr ids, offs k⟩ : Sd).rem id = ⟨unr (ids.eraseIdx j), offs k⟩ := by
  have hjl := (List.getElem?_eq_some_iff.1 hj).1
  have e0 : (⟨unr ids, offs k⟩ : Sd).at id = j := unr_at hj hn
  have hl : (⟨unr ids, offs k⟩ : Sd).rnd.length = ids.length := unr_len
  have e1 : (⟨unr ids, offs k⟩ : Sd).addE id = 132 := by
    unfold Sd.addE
    rw [if_neg (by omega), e0, hl, if_pos hjl]
  have e2 : (⟨unr ids, offs k⟩ : Sd).remE id = 0 := by
    unfold Sd.remE
    rw [e0, hl, if_pos hjl]
  refine ⟨e1, if_neg (by rw [e1]; decide), e2, ?_⟩
  unfold Sd.rem
  rw [if_pos e2, e0, unr_erase]
theorem kept_out {k : Nat} {id : Int} (h0 : 0 ≤ id) (h : id ∉ ids) :
    (⟨unr ids, offs k⟩ : Sd).remE id = 132 ∧ (⟨unr ids, offs k⟩ : Sd).rem id = ⟨unr ids, offs k⟩ ∧ (ids.length < 64 → (⟨unr ids, offs k⟩ : Sd).addE id = 0 ∧ (⟨unr ids, offs k⟩ : Sd).add id = ⟨unr (ids ++ [id]), offs k⟩) ∧ (¬ ids.length < 64 → (⟨unr ids, offs k⟩ : Sd).addE id = 133 ∧ (⟨unr ids, offs k⟩ : Sd).add id = ⟨unr ids, offs k⟩) := by
  have hl : (⟨unr ids, offs k⟩ : Sd).rnd.length = ids.length := unr_len
  have e0 : (⟨unr ids, offs k⟩ : Sd).at id = ids.length := by
    unfold Sd.at
    rw [at_none (unr_out h)]
    exact unr_len
  have e2 : (⟨unr ids, offs k⟩ : Sd).remE id = 132 := by
    unfold Sd.remE
    rw [e0, hl, if_neg (by omega)]
  refine ⟨e2, if_neg (by rw [e2]; decide), fun hlt => ?_, fun hlt => ?_⟩
  · have e1 : (⟨unr ids, offs k⟩ : Sd).addE id = 0 := by
      unfold Sd.addE
      rw [if_neg (by omega), e0, hl, if_neg (by omega), if_neg (by omega)]
    refine ⟨e1, ?_⟩
    unfold Sd.add
    rw [if_pos e1, unr_app]
  · have e1 : (⟨unr ids, offs k⟩ : Sd).addE id = 133 := by
      unfold Sd.addE
      rw [if_neg (by omega), e0, hl, if_neg (by omega), if_pos (by omega)]
    exact ⟨e1, if_neg (by rw [e1]; decide)⟩
theorem kept_none {k : Nat} (hk : 0 < k) : (⟨unr ids, offs k⟩ : Sd).begE 0 = 134 := by
  have e0 : (⟨unr ids, offs k⟩ : Sd).next = (unr ids).length := by
    rw [next_offs]
    refine findIdx_none (p := fun m : Mem => m.rd) (fun j z hz => ?_)
    unfold unr at hz
    rw [List.getElem?_map] at hz
    obtain ⟨x, hx, rfl⟩ := Option.map_eq_some_iff.1 hz
    rfl
  unfold Sd.begE
  rw [show (0 : Int) = ((0 : Nat) : Int) from rfl, slot_nat (S := ⟨unr ids, offs k⟩) (offs_at hk), e0]
  show (if false = true then _ else if (unr ids).length < (unr ids).length then _ else _) = _
  rw [if_neg (by decide), if_neg (by omega)]
/-- a sched and the list of who is in its round -/
structure Kp (W : World) (sb k : Nat) (ids : List Int) (v : Value) (w : World) : Prop where
  at' : ∃ K, Sx W K sb ⟨unr ids, offs k⟩ w ∧ w.ownsRow 0 3 1 v ids.length (nums ids) ∧ ∀ g, v.ownBlock = some g → K g ∧ W.heap.size ≤ g
  nd : ids.Nodup
theorem Kp.up (h : Kp W sb k ids v w) : Up W w := by
  obtain ⟨K, h1, _⟩ := h.at'
  exact h1.up
theorem Kp.len (h : Kp W sb k ids v w) : ids.length ≤ 64 := by
  obtain ⟨K, h1, _⟩ := h.at'
  have := h1.st.len
  rw [← unr_len (ids := ids)]
  exact this
theorem Kp.ln (h : Kp W sb k ids v w) : Ln w v ids := by
  obtain ⟨K, h1, h2, _⟩ := h.at'
  exact Ln.of h2
/-- who is in is refused, and taken out -/
theorem Kp.in' {k j : Nat} {id : Int} (h : Kp W sb k ids v w) (h0 : 0 ≤ id) (h9 : id ≤ 1000) (hj : ids[j]? = some id) :
    Calls Try.prog 16 #[.pointer (some ⟨sb, 0, none⟩), .int .i64 id] w fun e w' => e = .returned (.int .i64 132) ∧ ∀ w1, w1 = w' → Calls Try.prog 17 #[.pointer (some ⟨sb, 0, none⟩), .int .i64 id] w1 fun e w2 => e = .returned (.int .i64 0) ∧ Ln w2 v ids ∧ Up W w2 ∧ (∀ w3 v3, Up w2 w3 → w3.ownsRow w2.heap.size 3 1 v3 (ids.eraseIdx j).length (nums (ids.eraseIdx j)) → Kp W sb k (ids.eraseIdx j) v3 w3) := by
  obtain ⟨K, h1, h2, h3⟩ := h.at'
  have t := kept_in (k := k) h0 hj h.nd
  refine (h1.add (id := id) (i64s (by omega) (by omega))).mono fun e wa ⟨q1, q2, q3⟩ => ?_
  rw [t.1] at q1
  rw [t.2.1] at q2
  refine ⟨q1, fun w1 e1 => ?_⟩
  subst e1
  refine (q2.remove (id := id)).mono fun e wb ⟨r1, r2, r3⟩ => ?_
  rw [t.2.2.1] at r1
  rw [t.2.2.2] at r2
  have f := q3.trans r3
  have o2 : wb.ownsRow 0 3 1 v ids.length (nums ids) := ownsRow_block h2 (fun g hg => f.block g (own_lt h2 hg) (h3 g hg).1)
  refine ⟨r1, Ln.of o2, r2.up, fun w3 v3 u3 o3 => ?_⟩
  refine ⟨⟨fun b => K b ∨ (wb.heap.size ≤ b ∧ b < w3.heap.size), r2.let' u3 (fun b hb => hb) (fun b hb => Or.inl hb), ?_, fun g hg => ?_⟩, h.nd.sublist (List.eraseIdx_sublist _ _)⟩
  · exact ⟨o3.1, o3.2.imp (fun h => h) fun ⟨g, cap, cur, q⟩ => ⟨g, cap, cur, q.1, Nat.zero_le _, q.2.2⟩⟩
  · have hl := o3.lt g hg
    have hs := r2.up.size
    exact ⟨Or.inr hl, by omega⟩
/-- who is out is added, where there is room -/
theorem Kp.out' {k : Nat} {id : Int} (h : Kp W sb k ids v w) (h0 : 0 ≤ id) (h9 : id ≤ 1000) (hj : id ∉ ids) :
    Calls Try.prog 17 #[.pointer (some ⟨sb, 0, none⟩), .int .i64 id] w fun e w' => e = .returned (.int .i64 132) ∧ ∀ w1, w1 = w' → Calls Try.prog 16 #[.pointer (some ⟨sb, 0, none⟩), .int .i64 id] w1 fun e w2 => (ids.length < 64 → e = .returned (.int .i64 0) ∧ w2.ownsRow 0 3 1 v ids.length (nums ids) ∧ (∀ wa w3 v3, Up w2 wa → wa.grownBy w3 v.ownBlock → w3.ownsRow 0 3 1 v3 (ids.length + 1) (nums ids ++ [.int .i64 id]) → (v3.ownBlock = v.ownBlock ∨ v3.ownBlock = some wa.heap.size) → Kp W sb k (ids ++ [id]) v3 w3)) ∧ (¬ ids.length < 64 → e = .returned (.int .i64 133) ∧ Kp W sb k ids v w2) := by
  obtain ⟨K, h1, h2, h3⟩ := h.at'
  have t := kept_out (k := k) h0 hj
  refine (h1.remove (id := id)).mono fun e wa ⟨q1, q2, q3⟩ => ?_
  rw [t.1] at q1
  rw [t.2.1] at q2
  refine ⟨q1, fun w1 e1 => ?_⟩
  subst e1
  refine (q2.add (id := id) (i64s (by omega) (by omega))).mono fun e wb ⟨r1, r2, r3⟩ => ?_
  have f := q3.trans r3
  have o2 : wb.ownsRow 0 3 1 v ids.length (nums ids) := ownsRow_block h2 (fun g hg => f.block g (own_lt h2 hg) (h3 g hg).1)
  refine ⟨fun hlt => ?_, fun hlt => ?_⟩
  · have t2 := t.2.2.1 hlt
    rw [t2.1] at r1
    rw [t2.2] at r2
    refine ⟨r1, o2, fun wc w3 v3 u3 g3 o3 at3 => ?_⟩
    have x1 := r2.more u3
    have x2 : SdAt K w3 sb ⟨unr (ids ++ [id]), offs k⟩ := x1.st.fk ⟨g3.os, g3.output, g3.size, fun b hb hk => g3.block b hb (fun e => hk (h3 b e.symm).1)⟩
    have u5 : Up W w3 := ⟨g3.os.trans x1.up.os, g3.output.trans x1.up.output, Nat.le_trans x1.up.size g3.size, fun b hb => (g3.block b (Nat.lt_of_lt_of_le hb x1.up.size) (fun e => by have := (h3 b e.symm).2; omega)).trans (x1.up.block b hb)⟩
    refine ⟨⟨fun b => K b ∨ b = wc.heap.size ∧ b < w3.heap.size, ⟨?_, u5, fun b hb => Or.inl (h1.old b hb)⟩, by rw [List.length_append, nums_app]; exact o3, fun g hg => ?_⟩, ?_⟩
    · obtain ⟨sg, sc, rv, z⟩ := x2
      obtain ⟨sg', sc', rv', z'⟩ := x1.st
      by_cases hsz : w3.heap.size = wc.heap.size
      · refine ⟨sg, sc, rv, z.keep (fun b hb => ?_) (fun b hb => ?_) rfl rfl (fun _ _ => rfl)⟩
        · rcases hb with hb | hb
          · exact z.kn b hb
          · omega
        · rcases hb with hb | hb
          · exact z.kb b hb
          · omega
      · have zb : ∀ b, (b = sb ∨ b = sg ∨ rv.ownBlock = some b) → b < wc.heap.size := fun b hb => by
          have e1 := heap_at z'.blk
          have e2 := z'.sglt
          have hbk : w3.heap[sb]? = wc.heap[sb]? := g3.block sb e1 (fun e => (z'.kn sb (h3 sb e.symm).1).1 rfl)
          have := hbk.symm.trans z.blk
          rw [z'.blk] at this
          have hc := congrArg (fun o => match o with | some (Obj.cells cs _ _) => (cs[0]?, cs[1]?) | _ => (none, none)) this
          simp at hc
          obtain ⟨c1, ⟨c2, _⟩⟩ := hc
          rcases hb with rfl | rfl | hb
          · exact e1
          · rw [← c2]; exact e2
          · rw [← c1] at hb
            exact own_lt z'.row hb
        refine ⟨sg, sc, rv, z.keep (fun b hb => ?_) (fun b hb => ?_) rfl rfl (fun _ _ => rfl)⟩
        · rcases hb with hb | hb
          · exact z.kn b hb
          · exact ⟨fun e => by have := zb b (Or.inl e); omega, fun e => by have := zb b (Or.inr (Or.inl e)); omega, fun e => by have := zb b (Or.inr (Or.inr e)); omega⟩
        · rcases hb with hb | hb
          · exact z.kb b hb
          · exact hb.2
    · have hl := o3.lt g hg
      rcases at3 with e | e
      · rw [e] at hg
        exact ⟨Or.inl (h3 g hg).1, (h3 g hg).2⟩
      · rw [e] at hg
        injection hg with hg
        have := x1.up.size
        exact ⟨Or.inr ⟨hg.symm, hl.2⟩, by omega⟩
    · rw [List.nodup_append]
      refine ⟨h.nd, by simp, fun a ha b hb => ?_⟩
      simp at hb
      subst hb
      exact fun e => hj (e ▸ ha)
  · have t2 := t.2.2.2 hlt
    rw [t2.1] at r1
    rw [t2.2] at r2
    exact ⟨r1, ⟨K, r2, o2, h3⟩, h.nd⟩
end Go.Proofs.Ytakciepfckdpfaa
