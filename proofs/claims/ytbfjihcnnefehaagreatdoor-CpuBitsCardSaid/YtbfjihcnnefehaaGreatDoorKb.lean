/- Pieces of code and a byte of memory beside it; CpuBits, plainly. -/
import Derived.Test.YtbfjihcnnefehaaGreatDoorLq
namespace Go.Proofs.YtbfjihcnnefehaaGreatDoor
open Go.RowKit
set_option linter.unusedVariables false
theorem mem1_code (bs : List Int) (hl : bs.length ≤ 1000) (k : Nat) (hk : k < bs.length) : mem1 512 bs (512 + k) = bs.getD k 0 := by
  have := lay_at (fun _ => 0) 512 bs bs.length (by omega) k hk
  rw [← this, ladr_in 512 k (by decide) (by decide)]
  show mem1 512 bs (512 + k) = mem1 512 bs _
  congr 1
  omega
theorem mem1_off (bs : List Int) (hl : bs.length ≤ 1000) (j : Nat) (hj : j < 512 ∨ 2000 < j) : mem1 512 bs j = 0 := by
  refine lay_off (fun _ => 0) 512 bs j bs.length (fun k hk => ?_)
  rw [ladr_in 512 k (by decide) (by decide)]
  omega
theorem mem2_code (bs : List Int) (hl : bs.length ≤ 1000) (a v : Int) (h0 : 2000 < a) (h1 : a ≤ 65535) (k : Nat) (hk : k < bs.length) : mem2 512 bs a [v] (512 + k) = bs.getD k 0 := by
  unfold mem2
  rw [lay_off _ _ _ _ _ (fun j hj => by
    have : j = 0 := by simp at hj; omega
    subst this
    rw [ladr_in a 0 (by omega) (by omega)]
    omega)]
  exact mem1_code bs hl k hk
theorem mem2_at (bs : List Int) (a v : Int) (h0 : 2000 < a) (h1 : a ≤ 65535) : mem2 512 bs a [v] a.toNat = v := by
  have := lay_at (mem1 512 bs) a [v] 1 (by decide) 0 (by decide)
  rw [ladr_in a 0 (by omega) (by omega)] at this
  rw [show ((a + ((0 : Nat) : Int)) % 65536).toNat = a.toNat by omega] at this
  exact this
theorem word_at (h l : Int) (h0 : 0 ≤ h) (h1 : h ≤ 255) (l0 : 0 ≤ l) (l1 : l ≤ 255) : wordP h l = 256 * h + l := by unfold wordP; omega
theorem adr512 (k : Nat) (hk : k < 60000) : adr 512 k = 512 + 1 + k := by unfold adr; omega
/-- one piece, its bytes wherever they lie -/
theorem pcsA (W : World) (gp gb cp : Nat) (a : Int) (bs : List Int) (ha : I64 a) (hb : ∀ x ∈ bs, 0 ≤ x ∧ x ≤ 255) (hl : bs.length ≤ 1000) (hgp : gp < W.heap.size) (hgb : gb < W.heap.size) (pa : Option Addr) (hpa : 0 < bs.length → pa = some ⟨gb, 0, none⟩)
    (c0 : W.cell? ⟨gp, 0, none⟩ = some (.int .i64 a)) (c1 : W.cell? ⟨gp, 1, none⟩ = some (.slice pa bs.length cp)) (hc : ∀ k (hk : k < bs.length), W.cell? ⟨gb, k, none⟩ = some (.int .u8 bs[k])) :
    Pcs W gp [⟨a, bs⟩] := by
  refine ⟨hgp, fun i h => ?_⟩
  have hi : i = 0 := by simp at h; omega
  subst hi
  exact ⟨ha, gb, hgb, c0, ⟨pa, cp, c1, hpa⟩, hl, fun k hk => ⟨hc k hk, hb _ (List.getElem_mem hk)⟩⟩
/-- two, each wherever it lies -/
theorem pcsAB (W : World) (gp gb gc : Nat) (a a2 : Int) (bs bs2 : List Int) (ha : I64 a) (ha2 : I64 a2) (hb : ∀ x ∈ bs, 0 ≤ x ∧ x ≤ 255) (hb2 : ∀ x ∈ bs2, 0 ≤ x ∧ x ≤ 255) (hl : bs.length ≤ 1000) (hl2 : bs2.length ≤ 1000) (hgp : gp < W.heap.size) (hgb : gb < W.heap.size) (hgc : gc < W.heap.size)
    (c0 : W.cell? ⟨gp, 0, none⟩ = some (.int .i64 a)) (c1 : W.cell? ⟨gp, 1, none⟩ = some (.slice (some ⟨gb, 0, none⟩) bs.length bs.length)) (c2 : W.cell? ⟨gp, 2, none⟩ = some (.int .i64 a2)) (c3 : W.cell? ⟨gp, 3, none⟩ = some (.slice (some ⟨gc, 0, none⟩) bs2.length bs2.length))
    (hc : ∀ k (hk : k < bs.length), W.cell? ⟨gb, k, none⟩ = some (.int .u8 bs[k])) (hc2 : ∀ k (hk : k < bs2.length), W.cell? ⟨gc, k, none⟩ = some (.int .u8 bs2[k])) :
    Pcs W gp [⟨a, bs⟩, ⟨a2, bs2⟩] := by
  refine ⟨hgp, fun i h => ?_⟩
  have hi : i = 0 ∨ i = 1 := by simp at h; omega
  rcases hi with rfl | rfl
  · exact ⟨ha, gb, hgb, c0, ⟨_, _, c1, fun _ => rfl⟩, hl, fun k hk => ⟨hc k hk, hb _ (List.getElem_mem hk)⟩⟩
  · exact ⟨ha2, gc, hgc, c2, ⟨_, _, c3, fun _ => rfl⟩, hl2, fun k hk => ⟨hc2 k hk, hb2 _ (List.getElem_mem hk)⟩⟩
end Go.Proofs.YtbfjihcnnefehaaGreatDoor
namespace Go.Proofs.YtbfjihcnnefehaaGreatDoor
open Go.RowKit
set_option linter.unusedVariables false
theorem bi1R (K N : Nat) (hK : K < 8) (hN : N < 8) (V F : Int) : altR (cbOp 1 K N) V F = V := by
  unfold altR
  rw [cbOp_div 1 K N (by decide) hK hN]
  rfl
theorem bi2R' (K N : Nat) (hK : K < 8) (hN : N < 8) (V F : Int) : altR (cbOp 2 K N) V F = reR K V := by
  unfold altR
  rw [cbOp_div 2 K N (by decide) hK hN, cbOp_y 2 K N (by decide) hK hN]
  rfl
theorem bi3R' (K N : Nat) (hK : K < 8) (hN : N < 8) (V F : Int) : altR (cbOp 3 K N) V F = seR K V := by
  unfold altR
  rw [cbOp_div 3 K N (by decide) hK hN, cbOp_y 3 K N (by decide) hK hN]
  rfl
theorem bi2F (K N : Nat) (hK : K < 8) (hN : N < 8) (V F : Int) : altF (cbOp 2 K N) V F = F := by
  unfold altF
  rw [cbOp_div 2 K N (by decide) hK hN]
  rfl
theorem bi3F (K N : Nat) (hK : K < 8) (hN : N < 8) (V F : Int) : altF (cbOp 3 K N) V F = F := by
  unfold altF
  rw [cbOp_div 3 K N (by decide) hK hN]
  rfl
theorem bi1F' (K N : Nat) (hK : K < 8) (hN : N < 8) (V F : Int) : altF (cbOp 1 K N) V F = biF K V F := by
  unfold altF
  rw [cbOp_div 1 K N (by decide) hK hN, cbOp_y 1 K N (by decide) hK hN]
  rfl
theorem bi2R (K N : Nat) (hK : K < 8) (hN : N < 8) (V F : Int) (h0 : 0 ≤ V) (h1 : V ≤ 255) : altR (cbOp 2 K N) V F = bits .andNot .i64 V (wrap64 (2 ^ K)) := by
  rw [bi2R' K N hK hN]
  rcases c8 hK with rfl | rfl | rfl | rfl | rfl | rfl | rfl | rfl
  · exact byteAll (p := fun V => reR ((0 : Nat) : Int) V = bits .andNot .i64 V (wrap64 (2 ^ 0))) (by decide +kernel) V h0 h1
  · exact byteAll (p := fun V => reR ((1 : Nat) : Int) V = bits .andNot .i64 V (wrap64 (2 ^ 1))) (by decide +kernel) V h0 h1
  · exact byteAll (p := fun V => reR ((2 : Nat) : Int) V = bits .andNot .i64 V (wrap64 (2 ^ 2))) (by decide +kernel) V h0 h1
  · exact byteAll (p := fun V => reR ((3 : Nat) : Int) V = bits .andNot .i64 V (wrap64 (2 ^ 3))) (by decide +kernel) V h0 h1
  · exact byteAll (p := fun V => reR ((4 : Nat) : Int) V = bits .andNot .i64 V (wrap64 (2 ^ 4))) (by decide +kernel) V h0 h1
  · exact byteAll (p := fun V => reR ((5 : Nat) : Int) V = bits .andNot .i64 V (wrap64 (2 ^ 5))) (by decide +kernel) V h0 h1
  · exact byteAll (p := fun V => reR ((6 : Nat) : Int) V = bits .andNot .i64 V (wrap64 (2 ^ 6))) (by decide +kernel) V h0 h1
  · exact byteAll (p := fun V => reR ((7 : Nat) : Int) V = bits .andNot .i64 V (wrap64 (2 ^ 7))) (by decide +kernel) V h0 h1
theorem bi3R (K N : Nat) (hK : K < 8) (hN : N < 8) (V F : Int) (h0 : 0 ≤ V) (h1 : V ≤ 255) : altR (cbOp 3 K N) V F = bits .or .i64 V (wrap64 (2 ^ K)) := by
  rw [bi3R' K N hK hN]
  rcases c8 hK with rfl | rfl | rfl | rfl | rfl | rfl | rfl | rfl
  · exact byteAll (p := fun V => seR ((0 : Nat) : Int) V = bits .or .i64 V (wrap64 (2 ^ 0))) (by decide +kernel) V h0 h1
  · exact byteAll (p := fun V => seR ((1 : Nat) : Int) V = bits .or .i64 V (wrap64 (2 ^ 1))) (by decide +kernel) V h0 h1
  · exact byteAll (p := fun V => seR ((2 : Nat) : Int) V = bits .or .i64 V (wrap64 (2 ^ 2))) (by decide +kernel) V h0 h1
  · exact byteAll (p := fun V => seR ((3 : Nat) : Int) V = bits .or .i64 V (wrap64 (2 ^ 3))) (by decide +kernel) V h0 h1
  · exact byteAll (p := fun V => seR ((4 : Nat) : Int) V = bits .or .i64 V (wrap64 (2 ^ 4))) (by decide +kernel) V h0 h1
  · exact byteAll (p := fun V => seR ((5 : Nat) : Int) V = bits .or .i64 V (wrap64 (2 ^ 5))) (by decide +kernel) V h0 h1
  · exact byteAll (p := fun V => seR ((6 : Nat) : Int) V = bits .or .i64 V (wrap64 (2 ^ 6))) (by decide +kernel) V h0 h1
  · exact byteAll (p := fun V => seR ((7 : Nat) : Int) V = bits .or .i64 V (wrap64 (2 ^ 7))) (by decide +kernel) V h0 h1
theorem biB (K : Nat) (hK : K < 8) (V : Int) (h0 : 0 ≤ V) (h1 : V ≤ 255) : (bits .and .i64 (V / 2 ^ K) 1 == 0) = (V / 2 ^ K % 2 == 0) := by
  rcases c8 hK with rfl | rfl | rfl | rfl | rfl | rfl | rfl | rfl
  · exact byteAll (p := fun V => (bits .and .i64 (V / 2 ^ 0) 1 == 0) = (V / 2 ^ 0 % 2 == 0)) (by decide +kernel) V h0 h1
  · exact byteAll (p := fun V => (bits .and .i64 (V / 2 ^ 1) 1 == 0) = (V / 2 ^ 1 % 2 == 0)) (by decide +kernel) V h0 h1
  · exact byteAll (p := fun V => (bits .and .i64 (V / 2 ^ 2) 1 == 0) = (V / 2 ^ 2 % 2 == 0)) (by decide +kernel) V h0 h1
  · exact byteAll (p := fun V => (bits .and .i64 (V / 2 ^ 3) 1 == 0) = (V / 2 ^ 3 % 2 == 0)) (by decide +kernel) V h0 h1
  · exact byteAll (p := fun V => (bits .and .i64 (V / 2 ^ 4) 1 == 0) = (V / 2 ^ 4 % 2 == 0)) (by decide +kernel) V h0 h1
  · exact byteAll (p := fun V => (bits .and .i64 (V / 2 ^ 5) 1 == 0) = (V / 2 ^ 5 % 2 == 0)) (by decide +kernel) V h0 h1
  · exact byteAll (p := fun V => (bits .and .i64 (V / 2 ^ 6) 1 == 0) = (V / 2 ^ 6 % 2 == 0)) (by decide +kernel) V h0 h1
  · exact byteAll (p := fun V => (bits .and .i64 (V / 2 ^ 7) 1 == 0) = (V / 2 ^ 7 % 2 == 0)) (by decide +kernel) V h0 h1
theorem biT (F : Int) (h0 : 0 ≤ F) (h1 : F ≤ 255) : flg true false true (cof F == 1) = bits .or .i64 (bits .or .i64 (bits .and .i64 F 16) 32) 128 :=
  byteAll (p := fun F => flg true false true (cof F == 1) = bits .or .i64 (bits .or .i64 (bits .and .i64 F 16) 32) 128) (by decide +kernel) F h0 h1
theorem biN (F : Int) (h0 : 0 ≤ F) (h1 : F ≤ 255) : flg false false true (cof F == 1) = bits .or .i64 (bits .and .i64 F 16) 32 :=
  byteAll (p := fun F => flg false false true (cof F == 1) = bits .or .i64 (bits .and .i64 F 16) 32) (by decide +kernel) F h0 h1
theorem bi1Ft (K N : Nat) (hK : K < 8) (hN : N < 8) (V F : Int) (h0 : 0 ≤ V) (h1 : V ≤ 255) (f0 : 0 ≤ F) (f1 : F ≤ 255) (h : (bits .and .i64 (V / 2 ^ K) 1 == 0) = true) : altF (cbOp 1 K N) V F = bits .or .i64 (bits .or .i64 (bits .and .i64 F 16) 32) 128 := by
  rw [bi1F' K N hK hN]
  unfold biF
  rw [if_neg (by omega), ← biT F f0 f1, Int.toNat_natCast, ← biB K hK V h0 h1, h]
theorem bi1Ff (K N : Nat) (hK : K < 8) (hN : N < 8) (V F : Int) (h0 : 0 ≤ V) (h1 : V ≤ 255) (f0 : 0 ≤ F) (f1 : F ≤ 255) (h : (bits .and .i64 (V / 2 ^ K) 1 == 0) = false) : altF (cbOp 1 K N) V F = bits .or .i64 (bits .and .i64 F 16) 32 := by
  rw [bi1F' K N hK hN]
  unfold biF
  rw [if_neg (by omega), ← biN F f0 f1, Int.toNat_natCast, ← biB K hK V h0 h1, h]
theorem pcs2 (w : World) (a1 a2 : Int) (bs1 bs2 : List Int) (h1 : I64 a1) (h2 : I64 a2) (hb1 : ∀ x ∈ bs1, 0 ≤ x ∧ x ≤ 255) (hb2 : ∀ x ∈ bs2, 0 ≤ x ∧ x ≤ 255) (hl1 : bs1.length ≤ 1000) (hl2 : bs2.length ≤ 1000) :
    Pcs (((w.alloc (.cells (bs1.map (Value.int .u8)).toArray 5)).alloc (.cells (bs2.map (Value.int .u8)).toArray 5)).alloc (.cells #[.int .i64 a1, .slice (some ⟨w.heap.size, 0, none⟩) bs1.length bs1.length, .int .i64 a2, .slice (some ⟨w.heap.size + 1, 0, none⟩) bs2.length bs2.length] 32)) (w.heap.size + 1 + 1) [⟨a1, bs1⟩, ⟨a2, bs2⟩] := by
  generalize e1 : w.alloc (.cells (bs1.map (Value.int .u8)).toArray 5) = w1
  generalize e2 : w1.alloc (.cells (bs2.map (Value.int .u8)).toArray 5) = w2
  have s1 : w1.heap.size = w.heap.size + 1 := by rw [← e1]; simp
  have s2 : w2.heap.size = w.heap.size + 1 + 1 := by rw [← e2]; simp [s1]
  have hN : ∀ (c : Array Value) (ty : TypeId) (k : Nat), (w2.alloc (.cells c ty)).cell? ⟨w.heap.size + 1 + 1, k, none⟩ = c[k]? := fun c ty k => by
    rw [← s2]; exact World.cell?_alloc_new w2 c ty k
  have hA : ∀ o p k, p < w.heap.size + 1 + 1 → (w2.alloc o).cell? ⟨p, k, none⟩ = w2.cell? ⟨p, k, none⟩ := fun o p k hp => World.cell?_alloc_lt _ _ _ (by rw [s2]; exact hp)
  have c2 : ∀ k, w2.cell? ⟨w.heap.size + 1, k, none⟩ = (bs2.map (Value.int .u8)).toArray[k]? := fun k => by
    rw [← e2, ← s1]; exact World.cell?_alloc_new w1 _ _ k
  have c1 : ∀ k, w2.cell? ⟨w.heap.size, k, none⟩ = (bs1.map (Value.int .u8)).toArray[k]? := fun k => by
    rw [← e2, World.cell?_alloc_lt _ _ _ (by rw [s1]; show w.heap.size < _; omega), ← e1]; exact World.cell?_alloc_new w _ _ k
  refine ⟨by simp [s2], fun i h => ?_⟩
  have hi : i = 0 ∨ i = 1 := by simp at h; omega
  rcases hi with rfl | rfl
  · refine ⟨h1, w.heap.size, by first | (simp [s2]; done) | (simp [s2]; omega), by rw [hN]; rfl, ⟨_, _, by rw [hN]; rfl, fun _ => rfl⟩, hl1, fun k hk => ?_⟩
    have hk' : k < bs1.length := hk
    refine ⟨?_, hb1 _ (List.getElem_mem hk')⟩
    rw [hA _ _ _ (by omega), c1]
    simp [hk']
  · refine ⟨h2, w.heap.size + 1, by first | (simp [s2]; done) | (simp [s2]; omega), by rw [hN]; rfl, ⟨_, _, by rw [hN]; rfl, fun _ => rfl⟩, hl2, fun k hk => ?_⟩
    have hk' : k < bs2.length := hk
    refine ⟨?_, hb2 _ (List.getElem_mem hk')⟩
    rw [hA _ _ _ (by omega), c2]
    simp [hk']
theorem rgF_b {G : Rg} (o : G.Ok) (n : Nat) : 0 ≤ rgF G n ∧ rgF G n ≤ 255 := by
  unfold rgF
  repeat' split
  · exact o.b
  · exact o.c
  · exact o.d
  · exact o.e
  · exact o.h
  · exact o.l
  · exact o.f
  · exact o.a
  · exact ⟨by decide, by decide⟩
theorem Calls.and_up {w W : World} {b gm p : Nat} {G T : Rg} {s : St} {f M : Nat → Int} (hm : Mem W gm M) (h : Calls Tryz.prog 19 #[.pointer (some ⟨b, 0, none⟩)] W fun e w' => e = .returned (.agg T.cells) ∧ Bun w b gm p G s f w' ∧ Up W w') :
    Calls Tryz.prog 19 #[.pointer (some ⟨b, 0, none⟩)] W fun e w' => e = .returned (.agg T.cells) ∧ (Bun w b gm p G s f w' ∧ Mem w' gm M) ∧ Up W w' :=
  h.mono fun e w' ⟨h1, h2, h3⟩ => ⟨h1, ⟨h2, hm.up h3⟩, h3⟩
theorem bi_T (G : Rg) (c : Int) (N : Nat) (hN : N < 8) (h6 : N ≠ 6) {sp pc : Int} {ime : Bool} : rgF (toRg (bd (cbR (rgF G) c N) sp pc ime)) N = altR c (rgF G N) G.f ∧ (toRg (bd (cbR (rgF G) c N) sp pc ime)).f = altF c (rgF G N) G.f := by
  rcases c8 hN with rfl | rfl | rfl | rfl | rfl | rfl | rfl | rfl
  all_goals first | exact absurd rfl h6 | exact ⟨rfl, rfl⟩
theorem biVal (G : Rg) (X : Int) (n : Nat) (h : n < 8) (h6 : n ≠ 6) : ([Value.int IntKind.i64 G.b, Value.int IntKind.i64 G.c, Value.int IntKind.i64 G.d, Value.int IntKind.i64 G.e, Value.int IntKind.i64 G.h, Value.int IntKind.i64 G.l, Value.int IntKind.i64 X, Value.int IntKind.i64 G.a])[n] = Value.int .i64 (rgF G n) := by
  rcases c8 h with rfl | rfl | rfl | rfl | rfl | rfl | rfl | rfl
  all_goals first | exact absurd rfl h6 | rfl
end Go.Proofs.YtbfjihcnnefehaaGreatDoor
