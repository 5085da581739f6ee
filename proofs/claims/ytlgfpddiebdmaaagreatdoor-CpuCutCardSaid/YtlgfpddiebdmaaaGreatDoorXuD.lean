/- Proved: for all pieces, registers, lines and cuts the law CpuCut answers true, where the table of bits is as the program's text lays it; no other condition. -/
import Derived.Test.YtlgfpddiebdmaaaGreatDoorXuC
import Derived.Deep.DeepCutAuto
import Derived.Test.YtlgfpddiebdmaaaGreatDoorRows
import Derived.Test.YtlgfpddiebdmaaaGreatDoorTie
import Derived.Test.YtlgfpddiebdmaaaGreatDoorCards
import Derived.LaidMore
import Derived.Stop.Joined
import Derived.Lib.LaidTab
import Derived.SevenTiedAt
import Derived.Deep.Slices
import Derived.Deep.Frames
import Derived.Carry
import Derived.WalkKit
import Derived.ProofKit
import Derived.OpenShut
import Derived.ChangeSlices
import Derived.Deep.SlicePairs
import Derived.SizedLaws
/- CpuCut's walk. -/
namespace Go.Proofs.YtlgfpddiebdmaaaGreatDoor
open Go.RowKit
set_option linter.unusedVariables false
theorem started_rep (g : Rg) : Rep (ofRg (bnd g)) := by
  refine ⟨⟨?_, fun e => ?_, fun e => ?_, fun e => ?_⟩, Or.inl ⟨rfl, rfl⟩⟩
  · show (pickI g.f 256 / 16 * 16) % 16 = 0
    omega
  · rcases e with e | e <;> cases e
  · cases e
  · cases e
theorem wantNew (w2 : World) (a b c : Int) : ∀ W3 old, (w2.alloc (.cells old 50)).setRow w2.heap.size #[.int .i64 a, .int .i64 b, .int .i64 c] = W3 → W3.heap[w2.heap.size]? = some (.cells #[.int .i64 a, .int .i64 b, .int .i64 c] 50 (0, 0)) ∧ Up w2 W3 := by
  rintro W3 old rfl
  exact ⟨setRow_heap _ _ _ _ _ _ (heap_alloc_new w2 _), ((Up.refl w2).alloc _).setRow (Nat.le_refl _) _⟩
theorem newInv : (ofRg newRg).Inv := ofRg_inv newRg newRg_ok
set_option maxRecDepth 100000 in
set_option maxHeartbeats 2000000 in
theorem cut_walk {W : World} {pa : Option Addr} {pb po pl pc : Nat} {P : Nat → Pce} (HP : PcsG W pa pb po pl pc P) (g : Rg) (hg : g.In) {la : Option Addr} {lb lo ln lc : Nat} {L : Nat → Int} (Dl : Ints W la lb lo ln lc L) {ca : Option Addr} {cb co cn cc : Nat} {C : Nat → Int} (Dc : Ints W ca cb co cn cc C) (hL : LaidB W) :
    Calls Tryz.prog 5 #[.slice pa pl pc, .agg g.cells, .slice la ln lc, .slice ca cn cc] W fun e w' => e = .returned (.bool true) ∧ Up W w' := by
  have HPc : Hid (PcsG W pa pb po pl pc P) := HP
  have HDl : Hid (Ints W la lb lo ln lc L) := Dl
  have HDc : Hid (Ints W ca cb co cn cc C) := Dc
  have HLa : Hid (LaidB W) := hL
  have HSt : Hid (∀ w, Calls Tryz.prog 7 #[.agg g.cells] w fun e w' => ∃ b, e = .returned (.pointer (some ⟨b, 0, none⟩)) ∧ w.heap.size ≤ b ∧ Cp w' b (ofRg (bnd g)) ∧ Up w w') := fun w => started_any g hg w
  have HRp : Hid (Rep (ofRg (bnd g))) := started_rep g
  have HIv : Hid (ofRg (bnd g)).Inv := ofRg_inv (bnd g) (bnd_ok g)
  generalize ofRg (bnd g) = p0 at HSt HRp HIv
  obtain ⟨ga, gf, gb, gc, gd, ge, gh, gl, gsp, gpc, gime, gst⟩ := g
  unfold Rg.cells at HSt ⊢
  have hc1 := Dc.lc
  have hc2 : cc ≤ 9223372036854775807 := by have := Dc.cm; unfold maxLen at this; omega
  clear HP hg Dl Dc hL
  have H0 : Hid (Up W (W.alloc (.cells #[.int .i64 ga, .int .i64 gf, .int .i64 gb, .int .i64 gc, .int .i64 gd, .int .i64 ge, .int .i64 gh, .int .i64 gl, .int .i64 gsp, .int .i64 gpc, .bool gime, .int .i64 gst] 23)) ∧ (W.alloc (.cells #[.int .i64 ga, .int .i64 gf, .int .i64 gb, .int .i64 gc, .int .i64 gd, .int .i64 ge, .int .i64 gh, .int .i64 gl, .int .i64 gsp, .int .i64 gpc, .bool gime, .int .i64 gst] 23)).heap[W.heap.size]? = some (.cells #[.int .i64 ga, .int .i64 gf, .int .i64 gb, .int .i64 gc, .int .i64 gd, .int .i64 ge, .int .i64 gh, .int .i64 gl, .int .i64 gsp, .int .i64 gpc, .bool gime, .int .i64 gst] 23 (0, 0))) := ⟨(Up.refl W).alloc _, heap_alloc_new W _⟩
  go_enter Tryz.func5, Tryz.ntmps5
  go_wp2_with fail
  generalize World.alloc W _ = w0 at H0 ⊢
  generalize hrb : W.heap.size = rb at H0 ⊢
  clear hrb
  refine (HSt.out w0).mono ?_
  rintro e w1 ⟨bx, rfl, hbx, px, u1⟩
  have H1 : Hid (W.heap.size ≤ bx ∧ Cp w1 bx p0 ∧ Up W w1) := ⟨Nat.le_trans H0.out.1.size hbx, px, H0.out.1.trans u1⟩
  obtain ⟨r0, r1, r2, r3, r4, r5, r6, r7, r8, r9, r10, r11⟩ := regBlock ⟨ga, gf, gb, gc, gd, ge, gh, gl, gsp, gpc, gime, gst⟩ ((u1.block rb (heap_at H0.out.2)).trans H0.out.2)
  clear hbx px u1 H0
  go_wp2_with fail
  clear r0 r1 r2 r3 r4 r5 r6 r7 r8 r9 r10 r11
  refine (HSt.out w1).mono ?_
  rintro e w2 ⟨ba, rfl, hba, py, u2⟩
  have H2 : Hid (W.heap.size ≤ bx ∧ bx < w1.heap.size ∧ w1.heap.size ≤ ba ∧ Cp w2 bx p0 ∧ Cp w2 ba p0 ∧ Up W w2) := ⟨H1.out.1, H1.out.2.1.lt, hba, H1.out.2.1.up u2, py, H1.out.2.2.trans u2⟩
  clear hba py u2 H1 HSt
  go_wp2_with fail
  refine (memoryG_any w2 (HPc.out.up H2.out.2.2.2.2.2)).mono ?_
  rintro e w3 ⟨rfl, m3, u3⟩
  generalize hgm : w2.heap.size = gm at m3 ⊢
  have H3 : Hid (gm = w2.heap.size ∧ Mem w3 gm (memG P pl) ∧ Up w2 w3 ∧ Up W w3) := ⟨hgm.symm, m3, u3, H2.out.2.2.2.2.2.trans u3⟩
  clear hgm m3 u3
  go_wp2_with fail
  refine (memoryG_any w3 (HPc.out.up H3.out.2.2.2)).mono ?_
  rintro e w4 ⟨rfl, m4, u4⟩
  generalize hgk : w3.heap.size = gk at m4 ⊢
  have H4 : Hid (gk = w3.heap.size ∧ Mem w4 gk (memG P pl) ∧ Up w3 w4 ∧ Mem w4 gm (memG P pl) ∧ Byt (memG P pl)) := ⟨hgk.symm, m4, u4, H3.out.2.1.up u4, memG_byt (fun i hi => (HPc.out.by' i hi).u8) pl (Nat.le_refl _)⟩
  clear hgk m4 u4
  have HCu0 : Hid (∃ K, Cu W K bx ba w4.heap.size 0 gm gk p0 (memG P pl) (w4.alloc (Obj.cells #[.slice none 0 0] 57))) := by
    obtain ⟨a1, a2, a3, a4, a5, a6⟩ := H2.out
    obtain ⟨b1, b2, b3, b4⟩ := H3.out
    obtain ⟨c1, c2, c3, c4, c5⟩ := H4.out
    have ua := (Up.refl w4).alloc (Obj.cells #[.slice none 0 0] 57)
    have l1 := a5.lt
    have l2 := b2.1
    have l3 := c2.1
    have s1 := a6.size
    have s2 := b3.size
    have s3 := c3.size
    refine ⟨fun b => b < w4.heap.size, ?_⟩
    exact { px := ((a4.up b3).up c3).up ua, py := ((a5.up b3).up c3).up ua, mm := c4.up ua, mn := c2.up ua, inv := HIv.out, rep := HRp.out, byt := c5, bk := ⟨.slice none 0 0, [], heap_alloc_new w4 _, ⟨rfl, Or.inl ⟨rfl, rfl⟩⟩, Nat.lt_irrefl _, fun g hg => (by cases hg), fun u hu => (by cases hu), by decide, fun j hj => absurd hj (by omega)⟩, kx := (by show bx < w4.heap.size; omega), ky := (by show ba < w4.heap.size; omega), km := (by show gm < w4.heap.size; omega), kk := (by show gk < w4.heap.size; omega), ne1 := by omega, ne2 := by omega, ne3 := by omega, ne4 := by omega, ne5 := by omega, ne6 := by omega, kb := fun b hb => (by have := ua.size; have : b < w4.heap.size := hb; omega), ko := fun b hb => (by show b < w4.heap.size; omega), nx := a1, ny := by omega, nm := by omega, nk := by omega, up := (b4.trans c3).trans ua, lb := ((HLa.out.up b4).up c3).up ua, w0 := HLa.out.1 }
  clear H2 H3 H4 HIv HRp
  generalize memG P pl = f0 at HCu0
  go_wp2_with fail
  generalize World.alloc w4 _ = w5 at HCu0 ⊢
  generalize w4.heap.size = bk at HCu0 ⊢
  go_loopw [10, 14, 15] (fun Y C' I wr => ∃ (i c ba n : Nat) (p : St) (f : Nat → Int) (K : Nat → Prop), i ≤ 300 ∧ c ≤ i ∧ n = 3 * c ∧ Y = .pointer (some ⟨ba, 0, none⟩) ∧ C' = .int .i64 c ∧ I = .int .i64 i ∧ Hid (Cu W K bx ba bk n gm gk p f wr)) (fun _ _ I _ => 300 - (intOf I).toNat)
  case atStart =>
    obtain ⟨K, h⟩ := HCu0.out
    exact ⟨0, 0, ba, 0, p0, f0, K, by omega, by omega, rfl, rfl, rfl, rfl, h⟩
  case round =>
    clear HCu0
    obtain ⟨i, c, ba', n, p, f, K, hi, hci, hn, rfl, rfl, rfl, M⟩ := hrel
    by_cases hlt : i < 300
    · have d1 : decide ((i : Int) < 300) = true := decide_eq_true (by omega)
      have e1 : (i : Int) < 300 := by omega
      have HN : Hid (n = 3 * c) := hn
      have HPi : Hid (∀ x : Int, I64 x → ∀ w, Calls Tryz.prog 13 #[.int .i64 x, .int .i64 17] w fun e w' => e = .returned (.int .i64 (pickI x 17)) ∧ w' = w) := fun x hx w => pick_any x 17 w hx (by decide) (by decide)
      have hi17 : ((i : Int)).tmod 17 = ((i % 17 : Nat) : Int) := by rw [Int.tmod_eq_emod_of_nonneg (by omega)]; rfl
      by_cases hcc : c < cn
      · have d2 : decide ((c : Int) < (cn : Int)) = true := decide_eq_true (by omega)
        have e2 : (c : Int) < (cn : Int) := by omega
        obtain rfl := HDc.out.ad (by omega)
        have kc := (HDc.out.up M.out.up).cell c hcc
        have HI : Hid (I64 (C c)) := HDc.out.i64 c
        clear hn
        go_wp2_with fail
        refine (HPi.out (C c) HI.out wr).mono ?_
        rintro e w' ⟨rfl, hw'⟩
        obtain rfl := hw'.symm
        clear hw' kc
        obtain ⟨pq, hpq⟩ : ∃ pq, pq = pickI (C c) 17 := ⟨_, rfl⟩
        rw [← hpq]
        have M0 : Hid _ := M
        clear M hpq
        generalize wr = wr2 at M0 ⊢
        by_cases hq : ((i % 17 : Nat) : Int) = pq
        · have q1 : (((i % 17 : Nat) : Int) == pq) = true := by rw [hq]; exact beq_self_eq_true _
          have hwc : IntKind.i64.wrap ((c : Int) + 1) = (c : Int) + 1 := by rw [IntKind.wrap_i64]; omega
          clear hq
          go_wp2_with fail
          refine (new_any wr2).mono ?_
          rintro e z1 ⟨rfl, hz1, uz1⟩
          generalize hbz : wr2.heap.size = bz at hz1 ⊢
          have HZ : Hid (Cu W K bx ba' bk n gm gk p f wr2 ∧ Cp z1 bz (ofRg newRg) ∧ Up wr2 z1 ∧ wr2.heap.size ≤ bz) := ⟨M0.out, hz1, uz1, Nat.le_of_eq hbz⟩
          clear hz1 uz1 hbz M0
          by_cases hpar : (c + 1) % 2 = 0
          · have hp2 : ((c : Int) + 1).tmod 2 = 0 := by rw [Int.tmod_eq_emod_of_nonneg (by omega)]; omega
            go_wp2_with fail
            refine (tick_any 62 0 bz _ z1 HZ.out.2.1 newInv (by exact ⟨HZ.out.1.lb.up HZ.out.2.2.1, by have := HZ.out.1.nx; have := HZ.out.1.up.size; have := HZ.out.1.w0; have := HZ.out.2.2.2; omega⟩) (by decide)).mono ?_
            rintro e z2 ⟨rfl, hz2, fz2⟩
            have HZ2 : Hid (∃ r : St, r.Ok ∧ Cp z2 bz r ∧ Up wr2 z2) := ⟨_, (tick_inv _ newInv _ _).ok, hz2, Fr.up HZ.out.2.2.1 HZ.out.2.2.2 fz2⟩
            clear hz2 fz2
            have HMv : Hid (∃ r : St, Cp z2 bz r ∧ r.Ok ∧ Up wr2 z2) := HZ2.out.imp fun r h => ⟨h.2.1, h.1, h.2.2⟩
            have HMo : Hid (Calls Tryz.prog 24 #[.pointer (some ⟨bk, 0, none⟩), .pointer (some ⟨ba', 0, none⟩), .pointer (some ⟨bz, 0, none⟩)] z2 fun e w' => e = .returned (.bool true) ∧ ∃ K, Cu W K bx bz bk (n + 1 + 1 + 1) gm gk p f w') := by
              obtain ⟨r, h1, h2, h3⟩ := HMv.out
              exact HZ.out.1.zed (by have := HN.out; omega) h3 HZ.out.2.2.2 h1 h2
            clear HZ2 HMv
            go_wp2_with fail
            refine Calls.mono HMo.out ?_
            rintro e w9 ⟨rfl, K2, hc9⟩
            have M2 : Hid _ := hc9
            clear hc9 HMo HZ
            go_wp2_with fail
            generalize w9 = wr2 at M2 ⊢
            obtain ⟨wk, wa, wd, hWv⟩ : ∃ wk wa wd : Int, wantsK p.next = wk ∧ p.at p.next = wa ∧ p.data p.next = wd := ⟨_, _, _, rfl, rfl, rfl⟩
            have HWx : Hid (∀ w, Up wr2 w → Calls Tryz.prog 22 #[.pointer (some ⟨bx, 0, none⟩)] w fun e w' => e = .returned (.agg #[.int .i64 wk, .int .i64 wa, .int .i64 wd]) ∧ Up w w') := fun w u => by rw [← hWv.1, ← hWv.2.1, ← hWv.2.2]; exact want_any bx p w (M2.out.px.up u) M2.out.inv.ok ⟨M2.out.lb.up u, by have := M2.out.nx; have := M2.out.w0; omega⟩
            have HWy : Hid (∀ w, Up wr2 w → Calls Tryz.prog 22 #[.pointer (some ⟨bz, 0, none⟩)] w fun e w' => e = .returned (.agg #[.int .i64 wk, .int .i64 wa, .int .i64 wd]) ∧ Up w w') := fun w u => by rw [← hWv.1, ← hWv.2.1, ← hWv.2.2]; exact want_any bz p w (M2.out.py.up u) M2.out.inv.ok ⟨M2.out.lb.up u, by have := M2.out.ny; have := M2.out.w0; omega⟩
            clear hWv
            go_wp2_with fail
            refine (HWx.out wr2 (Up.refl _)).mono ?_
            rintro e v1 ⟨rfl, uv1⟩
            have HV1 : Hid (Up wr2 v1) := uv1
            clear uv1
            have HNv : Hid (∀ o, (v1.alloc o).heap[v1.heap.size]? = some o) := heap_alloc_new v1
            have HXv : Hid _ := wantNew v1 wk wa wd
            go_wp2_with (refine wpList_store_rowTo rfl 50 _ _ rfl rfl v1.heap.size #[.int .i64 wk, .int .i64 wa, .int .i64 wd] rfl rfl 50 _ (HNv.out _) (by kernel_rfl) rfl (by simp [Value.oneCell']) ?_
                         generalize hW3 : World.setRow _ _ _ = v2
                         obtain ⟨hc3, hu3⟩ := HXv.out v2 _ hW3
                         clear hW3
                         generalize hvb : v1.heap.size = vb at hc3 ⊢
                         have HV2 : Hid (Up wr2 v2 ∧ v2.heap[vb]? = some (.cells #[.int .i64 wk, .int .i64 wa, .int .i64 wd] 50 (0, 0)) ∧ wr2.heap.size ≤ vb) := ⟨HV1.out.trans hu3, hc3, by rw [← hvb]; exact HV1.out.size⟩
                         clear hu3 hc3 HNv HXv HV1 hvb)
            refine (HWy.out v2 HV2.out.1).mono ?_
            rintro e v3 ⟨rfl, uv3⟩
            have HV3 : Hid (Up wr2 v3 ∧ v3.heap[vb]? = some (.cells #[.int .i64 wk, .int .i64 wa, .int .i64 wd] 50 (0, 0)) ∧ wr2.heap.size ≤ vb) := ⟨HV2.out.1.trans uv3, (uv3.block vb (heap_at HV2.out.2.1)).trans HV2.out.2.1, HV2.out.2.2⟩
            clear uv3 HV2 HWx HWy
            have HNv : Hid (∀ o, (v3.alloc o).heap[v3.heap.size]? = some o) := heap_alloc_new v3
            have HXv : Hid _ := wantNew v3 wk wa wd
            go_wp2_with (refine wpList_store_rowTo rfl 50 _ _ rfl rfl v3.heap.size #[.int .i64 wk, .int .i64 wa, .int .i64 wd] rfl rfl 50 _ (HNv.out _) (by kernel_rfl) rfl (by simp [Value.oneCell']) ?_
                         generalize hW3 : World.setRow _ _ _ = v4
                         obtain ⟨hc3, hu3⟩ := HXv.out v4 _ hW3
                         clear hW3
                         generalize hvc : v3.heap.size = vc at hc3 ⊢
                         have HV4 : Hid (Up wr2 v4 ∧ v4.heap[vb]? = some (.cells #[.int .i64 wk, .int .i64 wa, .int .i64 wd] 50 (0, 0)) ∧ v4.heap[vc]? = some (.cells #[.int .i64 wk, .int .i64 wa, .int .i64 wd] 50 (0, 0)) ∧ wr2.heap.size ≤ vb ∧ wr2.heap.size ≤ vc) := ⟨HV3.out.1.trans hu3, (hu3.block vb (heap_at HV3.out.2.1)).trans HV3.out.2.1, hc3, HV3.out.2.2, by rw [← hvc]; exact HV3.out.1.size⟩
                         clear hu3 hc3 HNv HXv HV3 hvc)
            have hIl : I64 (atL ln L i) := atL_i64 HDl.out i
            have HAt : Hid (∀ w, Up W w → Calls Tryz.prog 14 #[.slice la ln lc, .int .i64 i] w fun e w' => e = .returned (.int .i64 (atL ln L i)) ∧ Up w w') := fun w u => at_list (HDl.out.up u) i (by omega)
            generalize atL ln L i = li at HAt hIl
            have HIl : Hid (I64 li) := hIl
            go_wp2_with fail
            refine (HAt.out v4 (M2.out.up.trans HV4.out.1)).mono ?_
            rintro e v5 ⟨rfl, uv5⟩
            have HV5 : Hid (Up wr2 v5) := HV4.out.1.trans uv5
            have HB5 : Hid (v5.heap[vb]? = some (.cells #[.int .i64 wk, .int .i64 wa, .int .i64 wd] 50 (0, 0)) ∧ v5.heap[vc]? = some (.cells #[.int .i64 wk, .int .i64 wa, .int .i64 wd] 50 (0, 0)) ∧ wr2.heap.size ≤ vb ∧ wr2.heap.size ≤ vc) := ⟨(uv5.block vb (heap_at HV4.out.2.1)).trans HV4.out.2.1, (uv5.block vc (heap_at HV4.out.2.2.1)).trans HV4.out.2.2.1, HV4.out.2.2.2⟩
            clear uv5 HV4
            go_wp2_with fail
            refine (M2.out.cycX li HIl.out HV5.out).mono ?_
            rintro e v6 ⟨rfl, cx, mx, u6⟩
            have HX6 : Hid (Cp v6 bx (p.tick (p.rdV f) li).1 ∧ Mem v6 gm (p.wrM f) ∧ Fr2 bx gm v5 v6) := ⟨cx, mx, u6⟩
            have HU6 : Hid (Up W v6) := by
              have q := M2.out.up.trans HV5.out
              exact ⟨u6.os.trans q.os, u6.output.trans q.output, Nat.le_trans q.size u6.size, fun k hk => (u6.block k (Nat.lt_of_lt_of_le hk q.size) (by have := M2.out.nx; omega) (by have := M2.out.nm; omega)).trans (q.block k hk)⟩
            have HB6 : Hid (v6.heap[vb]? = some (.cells #[.int .i64 wk, .int .i64 wa, .int .i64 wd] 50 (0, 0)) ∧ v6.heap[vc]? = some (.cells #[.int .i64 wk, .int .i64 wa, .int .i64 wd] 50 (0, 0))) := by
              obtain ⟨q1, q2, q3, q4⟩ := HB5.out
              have k1 := M2.out.kb bx M2.out.kx
              have k2 := M2.out.kb gm M2.out.km
              exact ⟨(u6.block vb (heap_at q1) (by omega) (by omega)).trans q1, (u6.block vc (heap_at q2) (by omega) (by omega)).trans q2⟩
            clear cx mx u6
            go_wp2_with fail
            refine (HAt.out v6 HU6.out).mono ?_
            rintro e v7 ⟨rfl, uv7⟩
            have HV7 : Hid (Up v6 v7) := uv7
            clear uv7
            go_wp2_with fail
            refine (M2.out.cycY li HIl.out HV5.out HX6.out.2.2 HV7.out).mono ?_
            rintro e v8 ⟨rfl, cy, my, u8⟩
            have HC8 : Hid (Cu W K2 bx bz bk (n + 1 + 1 + 1) gm gk (p.tick (p.rdV f) li).1 (p.wrM f) v8) := M2.out.cyc li HV5.out HX6.out.1 HX6.out.2.1 HX6.out.2.2 HV7.out cy my u8
            have HB8 : Hid (v8.heap[vb]? = some (.cells #[.int .i64 wk, .int .i64 wa, .int .i64 wd] 50 (0, 0)) ∧ v8.heap[vc]? = some (.cells #[.int .i64 wk, .int .i64 wa, .int .i64 wd] 50 (0, 0))) := by
              obtain ⟨q1, q2⟩ := HB6.out
              obtain ⟨_, _, q3, q4⟩ := HB5.out
              have k1 := M2.out.kb bz M2.out.ky
              have k2 := M2.out.kb gk M2.out.kk
              exact ⟨(u8.block vb (heap_at ((HV7.out.block vb (heap_at q1)).trans q1)) (by omega) (by omega)).trans ((HV7.out.block vb (heap_at q1)).trans q1), (u8.block vc (heap_at ((HV7.out.block vc (heap_at q2)).trans q2)) (by omega) (by omega)).trans ((HV7.out.block vc (heap_at q2)).trans q2)⟩
            clear cy my u8 M2 HX6 HU6 HB6 HB5 HV5 HV7 HAt hIl HIl
            obtain ⟨pb0, pb1, pb2⟩ := res3 HB8.out.1
            obtain ⟨pc0, pc1, pc2⟩ := res3 HB8.out.2
            generalize (p.tick (p.rdV f) li).2 = tk
            clear HB8
            generalize (p.tick (p.rdV f) li).1 = p9 at HC8
            generalize p.wrM f = f9 at HC8
            go_wp2_with fail
            refine ⟨⟨i + 1, (c + 1), bz, (n + 1 + 1 + 1), p9, f9, K2, by omega, by omega, by have := HN.out; omega, rfl, by first | rfl | (simp; done), by first | rfl | (simp; done), HC8⟩, ?_⟩
            simp [intOf]
            omega
          · have hp2 : ((c : Int) + 1).tmod 2 = 1 := by rw [Int.tmod_eq_emod_of_nonneg (by omega)]; omega
            have HZ2 : Hid (∃ r : St, r.Ok ∧ Cp z1 bz r ∧ Up wr2 z1) := ⟨_, newInv.ok, HZ.out.2.1, HZ.out.2.2.1⟩
            generalize z1 = z2 at HZ2 HZ ⊢
            have HMv : Hid (∃ r : St, Cp z2 bz r ∧ r.Ok ∧ Up wr2 z2) := HZ2.out.imp fun r h => ⟨h.2.1, h.1, h.2.2⟩
            have HMo : Hid (Calls Tryz.prog 24 #[.pointer (some ⟨bk, 0, none⟩), .pointer (some ⟨ba', 0, none⟩), .pointer (some ⟨bz, 0, none⟩)] z2 fun e w' => e = .returned (.bool true) ∧ ∃ K, Cu W K bx bz bk (n + 1 + 1 + 1) gm gk p f w') := by
              obtain ⟨r, h1, h2, h3⟩ := HMv.out
              exact HZ.out.1.zed (by have := HN.out; omega) h3 HZ.out.2.2.2 h1 h2
            clear HZ2 HMv
            go_wp2_with fail
            refine Calls.mono HMo.out ?_
            rintro e w9 ⟨rfl, K2, hc9⟩
            have M2 : Hid _ := hc9
            clear hc9 HMo HZ
            go_wp2_with fail
            generalize w9 = wr2 at M2 ⊢
            obtain ⟨wk, wa, wd, hWv⟩ : ∃ wk wa wd : Int, wantsK p.next = wk ∧ p.at p.next = wa ∧ p.data p.next = wd := ⟨_, _, _, rfl, rfl, rfl⟩
            have HWx : Hid (∀ w, Up wr2 w → Calls Tryz.prog 22 #[.pointer (some ⟨bx, 0, none⟩)] w fun e w' => e = .returned (.agg #[.int .i64 wk, .int .i64 wa, .int .i64 wd]) ∧ Up w w') := fun w u => by rw [← hWv.1, ← hWv.2.1, ← hWv.2.2]; exact want_any bx p w (M2.out.px.up u) M2.out.inv.ok ⟨M2.out.lb.up u, by have := M2.out.nx; have := M2.out.w0; omega⟩
            have HWy : Hid (∀ w, Up wr2 w → Calls Tryz.prog 22 #[.pointer (some ⟨bz, 0, none⟩)] w fun e w' => e = .returned (.agg #[.int .i64 wk, .int .i64 wa, .int .i64 wd]) ∧ Up w w') := fun w u => by rw [← hWv.1, ← hWv.2.1, ← hWv.2.2]; exact want_any bz p w (M2.out.py.up u) M2.out.inv.ok ⟨M2.out.lb.up u, by have := M2.out.ny; have := M2.out.w0; omega⟩
            clear hWv
            go_wp2_with fail
            refine (HWx.out wr2 (Up.refl _)).mono ?_
            rintro e v1 ⟨rfl, uv1⟩
            have HV1 : Hid (Up wr2 v1) := uv1
            clear uv1
            have HNv : Hid (∀ o, (v1.alloc o).heap[v1.heap.size]? = some o) := heap_alloc_new v1
            have HXv : Hid _ := wantNew v1 wk wa wd
            go_wp2_with (refine wpList_store_rowTo rfl 50 _ _ rfl rfl v1.heap.size #[.int .i64 wk, .int .i64 wa, .int .i64 wd] rfl rfl 50 _ (HNv.out _) (by kernel_rfl) rfl (by simp [Value.oneCell']) ?_
                         generalize hW3 : World.setRow _ _ _ = v2
                         obtain ⟨hc3, hu3⟩ := HXv.out v2 _ hW3
                         clear hW3
                         generalize hvb : v1.heap.size = vb at hc3 ⊢
                         have HV2 : Hid (Up wr2 v2 ∧ v2.heap[vb]? = some (.cells #[.int .i64 wk, .int .i64 wa, .int .i64 wd] 50 (0, 0)) ∧ wr2.heap.size ≤ vb) := ⟨HV1.out.trans hu3, hc3, by rw [← hvb]; exact HV1.out.size⟩
                         clear hu3 hc3 HNv HXv HV1 hvb)
            refine (HWy.out v2 HV2.out.1).mono ?_
            rintro e v3 ⟨rfl, uv3⟩
            have HV3 : Hid (Up wr2 v3 ∧ v3.heap[vb]? = some (.cells #[.int .i64 wk, .int .i64 wa, .int .i64 wd] 50 (0, 0)) ∧ wr2.heap.size ≤ vb) := ⟨HV2.out.1.trans uv3, (uv3.block vb (heap_at HV2.out.2.1)).trans HV2.out.2.1, HV2.out.2.2⟩
            clear uv3 HV2 HWx HWy
            have HNv : Hid (∀ o, (v3.alloc o).heap[v3.heap.size]? = some o) := heap_alloc_new v3
            have HXv : Hid _ := wantNew v3 wk wa wd
            go_wp2_with (refine wpList_store_rowTo rfl 50 _ _ rfl rfl v3.heap.size #[.int .i64 wk, .int .i64 wa, .int .i64 wd] rfl rfl 50 _ (HNv.out _) (by kernel_rfl) rfl (by simp [Value.oneCell']) ?_
                         generalize hW3 : World.setRow _ _ _ = v4
                         obtain ⟨hc3, hu3⟩ := HXv.out v4 _ hW3
                         clear hW3
                         generalize hvc : v3.heap.size = vc at hc3 ⊢
                         have HV4 : Hid (Up wr2 v4 ∧ v4.heap[vb]? = some (.cells #[.int .i64 wk, .int .i64 wa, .int .i64 wd] 50 (0, 0)) ∧ v4.heap[vc]? = some (.cells #[.int .i64 wk, .int .i64 wa, .int .i64 wd] 50 (0, 0)) ∧ wr2.heap.size ≤ vb ∧ wr2.heap.size ≤ vc) := ⟨HV3.out.1.trans hu3, (hu3.block vb (heap_at HV3.out.2.1)).trans HV3.out.2.1, hc3, HV3.out.2.2, by rw [← hvc]; exact HV3.out.1.size⟩
                         clear hu3 hc3 HNv HXv HV3 hvc)
            have hIl : I64 (atL ln L i) := atL_i64 HDl.out i
            have HAt : Hid (∀ w, Up W w → Calls Tryz.prog 14 #[.slice la ln lc, .int .i64 i] w fun e w' => e = .returned (.int .i64 (atL ln L i)) ∧ Up w w') := fun w u => at_list (HDl.out.up u) i (by omega)
            generalize atL ln L i = li at HAt hIl
            have HIl : Hid (I64 li) := hIl
            go_wp2_with fail
            refine (HAt.out v4 (M2.out.up.trans HV4.out.1)).mono ?_
            rintro e v5 ⟨rfl, uv5⟩
            have HV5 : Hid (Up wr2 v5) := HV4.out.1.trans uv5
            have HB5 : Hid (v5.heap[vb]? = some (.cells #[.int .i64 wk, .int .i64 wa, .int .i64 wd] 50 (0, 0)) ∧ v5.heap[vc]? = some (.cells #[.int .i64 wk, .int .i64 wa, .int .i64 wd] 50 (0, 0)) ∧ wr2.heap.size ≤ vb ∧ wr2.heap.size ≤ vc) := ⟨(uv5.block vb (heap_at HV4.out.2.1)).trans HV4.out.2.1, (uv5.block vc (heap_at HV4.out.2.2.1)).trans HV4.out.2.2.1, HV4.out.2.2.2⟩
            clear uv5 HV4
            go_wp2_with fail
            refine (M2.out.cycX li HIl.out HV5.out).mono ?_
            rintro e v6 ⟨rfl, cx, mx, u6⟩
            have HX6 : Hid (Cp v6 bx (p.tick (p.rdV f) li).1 ∧ Mem v6 gm (p.wrM f) ∧ Fr2 bx gm v5 v6) := ⟨cx, mx, u6⟩
            have HU6 : Hid (Up W v6) := by
              have q := M2.out.up.trans HV5.out
              exact ⟨u6.os.trans q.os, u6.output.trans q.output, Nat.le_trans q.size u6.size, fun k hk => (u6.block k (Nat.lt_of_lt_of_le hk q.size) (by have := M2.out.nx; omega) (by have := M2.out.nm; omega)).trans (q.block k hk)⟩
            have HB6 : Hid (v6.heap[vb]? = some (.cells #[.int .i64 wk, .int .i64 wa, .int .i64 wd] 50 (0, 0)) ∧ v6.heap[vc]? = some (.cells #[.int .i64 wk, .int .i64 wa, .int .i64 wd] 50 (0, 0))) := by
              obtain ⟨q1, q2, q3, q4⟩ := HB5.out
              have k1 := M2.out.kb bx M2.out.kx
              have k2 := M2.out.kb gm M2.out.km
              exact ⟨(u6.block vb (heap_at q1) (by omega) (by omega)).trans q1, (u6.block vc (heap_at q2) (by omega) (by omega)).trans q2⟩
            clear cx mx u6
            go_wp2_with fail
            refine (HAt.out v6 HU6.out).mono ?_
            rintro e v7 ⟨rfl, uv7⟩
            have HV7 : Hid (Up v6 v7) := uv7
            clear uv7
            go_wp2_with fail
            refine (M2.out.cycY li HIl.out HV5.out HX6.out.2.2 HV7.out).mono ?_
            rintro e v8 ⟨rfl, cy, my, u8⟩
            have HC8 : Hid (Cu W K2 bx bz bk (n + 1 + 1 + 1) gm gk (p.tick (p.rdV f) li).1 (p.wrM f) v8) := M2.out.cyc li HV5.out HX6.out.1 HX6.out.2.1 HX6.out.2.2 HV7.out cy my u8
            have HB8 : Hid (v8.heap[vb]? = some (.cells #[.int .i64 wk, .int .i64 wa, .int .i64 wd] 50 (0, 0)) ∧ v8.heap[vc]? = some (.cells #[.int .i64 wk, .int .i64 wa, .int .i64 wd] 50 (0, 0))) := by
              obtain ⟨q1, q2⟩ := HB6.out
              obtain ⟨_, _, q3, q4⟩ := HB5.out
              have k1 := M2.out.kb bz M2.out.ky
              have k2 := M2.out.kb gk M2.out.kk
              exact ⟨(u8.block vb (heap_at ((HV7.out.block vb (heap_at q1)).trans q1)) (by omega) (by omega)).trans ((HV7.out.block vb (heap_at q1)).trans q1), (u8.block vc (heap_at ((HV7.out.block vc (heap_at q2)).trans q2)) (by omega) (by omega)).trans ((HV7.out.block vc (heap_at q2)).trans q2)⟩
            clear cy my u8 M2 HX6 HU6 HB6 HB5 HV5 HV7 HAt hIl HIl
            obtain ⟨pb0, pb1, pb2⟩ := res3 HB8.out.1
            obtain ⟨pc0, pc1, pc2⟩ := res3 HB8.out.2
            generalize (p.tick (p.rdV f) li).2 = tk
            clear HB8
            generalize (p.tick (p.rdV f) li).1 = p9 at HC8
            generalize p.wrM f = f9 at HC8
            go_wp2_with fail
            refine ⟨⟨i + 1, (c + 1), bz, (n + 1 + 1 + 1), p9, f9, K2, by omega, by omega, by have := HN.out; omega, rfl, by first | rfl | (simp; done), by first | rfl | (simp; done), HC8⟩, ?_⟩
            simp [intOf]
            omega
        · have q1 : (((i % 17 : Nat) : Int) == pq) = false := beq_eq_false_iff_ne.2 hq
          have M2 : Hid _ := M0
          clear M0
          go_wp2_with fail
          obtain ⟨wk, wa, wd, hWv⟩ : ∃ wk wa wd : Int, wantsK p.next = wk ∧ p.at p.next = wa ∧ p.data p.next = wd := ⟨_, _, _, rfl, rfl, rfl⟩
          have HWx : Hid (∀ w, Up wr2 w → Calls Tryz.prog 22 #[.pointer (some ⟨bx, 0, none⟩)] w fun e w' => e = .returned (.agg #[.int .i64 wk, .int .i64 wa, .int .i64 wd]) ∧ Up w w') := fun w u => by rw [← hWv.1, ← hWv.2.1, ← hWv.2.2]; exact want_any bx p w (M2.out.px.up u) M2.out.inv.ok ⟨M2.out.lb.up u, by have := M2.out.nx; have := M2.out.w0; omega⟩
          have HWy : Hid (∀ w, Up wr2 w → Calls Tryz.prog 22 #[.pointer (some ⟨ba', 0, none⟩)] w fun e w' => e = .returned (.agg #[.int .i64 wk, .int .i64 wa, .int .i64 wd]) ∧ Up w w') := fun w u => by rw [← hWv.1, ← hWv.2.1, ← hWv.2.2]; exact want_any ba' p w (M2.out.py.up u) M2.out.inv.ok ⟨M2.out.lb.up u, by have := M2.out.ny; have := M2.out.w0; omega⟩
          clear hWv
          go_wp2_with fail
          refine (HWx.out wr2 (Up.refl _)).mono ?_
          rintro e v1 ⟨rfl, uv1⟩
          have HV1 : Hid (Up wr2 v1) := uv1
          clear uv1
          have HNv : Hid (∀ o, (v1.alloc o).heap[v1.heap.size]? = some o) := heap_alloc_new v1
          have HXv : Hid _ := wantNew v1 wk wa wd
          go_wp2_with (refine wpList_store_rowTo rfl 50 _ _ rfl rfl v1.heap.size #[.int .i64 wk, .int .i64 wa, .int .i64 wd] rfl rfl 50 _ (HNv.out _) (by kernel_rfl) rfl (by simp [Value.oneCell']) ?_
                       generalize hW3 : World.setRow _ _ _ = v2
                       obtain ⟨hc3, hu3⟩ := HXv.out v2 _ hW3
                       clear hW3
                       generalize hvb : v1.heap.size = vb at hc3 ⊢
                       have HV2 : Hid (Up wr2 v2 ∧ v2.heap[vb]? = some (.cells #[.int .i64 wk, .int .i64 wa, .int .i64 wd] 50 (0, 0)) ∧ wr2.heap.size ≤ vb) := ⟨HV1.out.trans hu3, hc3, by rw [← hvb]; exact HV1.out.size⟩
                       clear hu3 hc3 HNv HXv HV1 hvb)
          refine (HWy.out v2 HV2.out.1).mono ?_
          rintro e v3 ⟨rfl, uv3⟩
          have HV3 : Hid (Up wr2 v3 ∧ v3.heap[vb]? = some (.cells #[.int .i64 wk, .int .i64 wa, .int .i64 wd] 50 (0, 0)) ∧ wr2.heap.size ≤ vb) := ⟨HV2.out.1.trans uv3, (uv3.block vb (heap_at HV2.out.2.1)).trans HV2.out.2.1, HV2.out.2.2⟩
          clear uv3 HV2 HWx HWy
          have HNv : Hid (∀ o, (v3.alloc o).heap[v3.heap.size]? = some o) := heap_alloc_new v3
          have HXv : Hid _ := wantNew v3 wk wa wd
          go_wp2_with (refine wpList_store_rowTo rfl 50 _ _ rfl rfl v3.heap.size #[.int .i64 wk, .int .i64 wa, .int .i64 wd] rfl rfl 50 _ (HNv.out _) (by kernel_rfl) rfl (by simp [Value.oneCell']) ?_
                       generalize hW3 : World.setRow _ _ _ = v4
                       obtain ⟨hc3, hu3⟩ := HXv.out v4 _ hW3
                       clear hW3
                       generalize hvc : v3.heap.size = vc at hc3 ⊢
                       have HV4 : Hid (Up wr2 v4 ∧ v4.heap[vb]? = some (.cells #[.int .i64 wk, .int .i64 wa, .int .i64 wd] 50 (0, 0)) ∧ v4.heap[vc]? = some (.cells #[.int .i64 wk, .int .i64 wa, .int .i64 wd] 50 (0, 0)) ∧ wr2.heap.size ≤ vb ∧ wr2.heap.size ≤ vc) := ⟨HV3.out.1.trans hu3, (hu3.block vb (heap_at HV3.out.2.1)).trans HV3.out.2.1, hc3, HV3.out.2.2, by rw [← hvc]; exact HV3.out.1.size⟩
                       clear hu3 hc3 HNv HXv HV3 hvc)
          have hIl : I64 (atL ln L i) := atL_i64 HDl.out i
          have HAt : Hid (∀ w, Up W w → Calls Tryz.prog 14 #[.slice la ln lc, .int .i64 i] w fun e w' => e = .returned (.int .i64 (atL ln L i)) ∧ Up w w') := fun w u => at_list (HDl.out.up u) i (by omega)
          generalize atL ln L i = li at HAt hIl
          have HIl : Hid (I64 li) := hIl
          go_wp2_with fail
          refine (HAt.out v4 (M2.out.up.trans HV4.out.1)).mono ?_
          rintro e v5 ⟨rfl, uv5⟩
          have HV5 : Hid (Up wr2 v5) := HV4.out.1.trans uv5
          have HB5 : Hid (v5.heap[vb]? = some (.cells #[.int .i64 wk, .int .i64 wa, .int .i64 wd] 50 (0, 0)) ∧ v5.heap[vc]? = some (.cells #[.int .i64 wk, .int .i64 wa, .int .i64 wd] 50 (0, 0)) ∧ wr2.heap.size ≤ vb ∧ wr2.heap.size ≤ vc) := ⟨(uv5.block vb (heap_at HV4.out.2.1)).trans HV4.out.2.1, (uv5.block vc (heap_at HV4.out.2.2.1)).trans HV4.out.2.2.1, HV4.out.2.2.2⟩
          clear uv5 HV4
          go_wp2_with fail
          refine (M2.out.cycX li HIl.out HV5.out).mono ?_
          rintro e v6 ⟨rfl, cx, mx, u6⟩
          have HX6 : Hid (Cp v6 bx (p.tick (p.rdV f) li).1 ∧ Mem v6 gm (p.wrM f) ∧ Fr2 bx gm v5 v6) := ⟨cx, mx, u6⟩
          have HU6 : Hid (Up W v6) := by
            have q := M2.out.up.trans HV5.out
            exact ⟨u6.os.trans q.os, u6.output.trans q.output, Nat.le_trans q.size u6.size, fun k hk => (u6.block k (Nat.lt_of_lt_of_le hk q.size) (by have := M2.out.nx; omega) (by have := M2.out.nm; omega)).trans (q.block k hk)⟩
          have HB6 : Hid (v6.heap[vb]? = some (.cells #[.int .i64 wk, .int .i64 wa, .int .i64 wd] 50 (0, 0)) ∧ v6.heap[vc]? = some (.cells #[.int .i64 wk, .int .i64 wa, .int .i64 wd] 50 (0, 0))) := by
            obtain ⟨q1, q2, q3, q4⟩ := HB5.out
            have k1 := M2.out.kb bx M2.out.kx
            have k2 := M2.out.kb gm M2.out.km
            exact ⟨(u6.block vb (heap_at q1) (by omega) (by omega)).trans q1, (u6.block vc (heap_at q2) (by omega) (by omega)).trans q2⟩
          clear cx mx u6
          go_wp2_with fail
          refine (HAt.out v6 HU6.out).mono ?_
          rintro e v7 ⟨rfl, uv7⟩
          have HV7 : Hid (Up v6 v7) := uv7
          clear uv7
          go_wp2_with fail
          refine (M2.out.cycY li HIl.out HV5.out HX6.out.2.2 HV7.out).mono ?_
          rintro e v8 ⟨rfl, cy, my, u8⟩
          have HC8 : Hid (Cu W K bx ba' bk n gm gk (p.tick (p.rdV f) li).1 (p.wrM f) v8) := M2.out.cyc li HV5.out HX6.out.1 HX6.out.2.1 HX6.out.2.2 HV7.out cy my u8
          have HB8 : Hid (v8.heap[vb]? = some (.cells #[.int .i64 wk, .int .i64 wa, .int .i64 wd] 50 (0, 0)) ∧ v8.heap[vc]? = some (.cells #[.int .i64 wk, .int .i64 wa, .int .i64 wd] 50 (0, 0))) := by
            obtain ⟨q1, q2⟩ := HB6.out
            obtain ⟨_, _, q3, q4⟩ := HB5.out
            have k1 := M2.out.kb ba' M2.out.ky
            have k2 := M2.out.kb gk M2.out.kk
            exact ⟨(u8.block vb (heap_at ((HV7.out.block vb (heap_at q1)).trans q1)) (by omega) (by omega)).trans ((HV7.out.block vb (heap_at q1)).trans q1), (u8.block vc (heap_at ((HV7.out.block vc (heap_at q2)).trans q2)) (by omega) (by omega)).trans ((HV7.out.block vc (heap_at q2)).trans q2)⟩
          clear cy my u8 M2 HX6 HU6 HB6 HB5 HV5 HV7 HAt hIl HIl
          obtain ⟨pb0, pb1, pb2⟩ := res3 HB8.out.1
          obtain ⟨pc0, pc1, pc2⟩ := res3 HB8.out.2
          generalize (p.tick (p.rdV f) li).2 = tk
          clear HB8
          generalize (p.tick (p.rdV f) li).1 = p9 at HC8
          generalize p.wrM f = f9 at HC8
          go_wp2_with fail
          refine ⟨⟨i + 1, c, ba', n, p9, f9, K, by omega, by omega, by have := HN.out; omega, rfl, by first | rfl | (simp; done), by first | rfl | (simp; done), HC8⟩, ?_⟩
          simp [intOf]
          omega
      · have d2 : decide ((c : Int) < (cn : Int)) = false := decide_eq_false (by omega)
        clear hn
        have M2 : Hid _ := M
        clear M
        generalize wr = wr2 at M2 ⊢
        obtain ⟨wk, wa, wd, hWv⟩ : ∃ wk wa wd : Int, wantsK p.next = wk ∧ p.at p.next = wa ∧ p.data p.next = wd := ⟨_, _, _, rfl, rfl, rfl⟩
        have HWx : Hid (∀ w, Up wr2 w → Calls Tryz.prog 22 #[.pointer (some ⟨bx, 0, none⟩)] w fun e w' => e = .returned (.agg #[.int .i64 wk, .int .i64 wa, .int .i64 wd]) ∧ Up w w') := fun w u => by rw [← hWv.1, ← hWv.2.1, ← hWv.2.2]; exact want_any bx p w (M2.out.px.up u) M2.out.inv.ok ⟨M2.out.lb.up u, by have := M2.out.nx; have := M2.out.w0; omega⟩
        have HWy : Hid (∀ w, Up wr2 w → Calls Tryz.prog 22 #[.pointer (some ⟨ba', 0, none⟩)] w fun e w' => e = .returned (.agg #[.int .i64 wk, .int .i64 wa, .int .i64 wd]) ∧ Up w w') := fun w u => by rw [← hWv.1, ← hWv.2.1, ← hWv.2.2]; exact want_any ba' p w (M2.out.py.up u) M2.out.inv.ok ⟨M2.out.lb.up u, by have := M2.out.ny; have := M2.out.w0; omega⟩
        clear hWv
        go_wp2_with fail
        refine (HWx.out wr2 (Up.refl _)).mono ?_
        rintro e v1 ⟨rfl, uv1⟩
        have HV1 : Hid (Up wr2 v1) := uv1
        clear uv1
        have HNv : Hid (∀ o, (v1.alloc o).heap[v1.heap.size]? = some o) := heap_alloc_new v1
        have HXv : Hid _ := wantNew v1 wk wa wd
        go_wp2_with (refine wpList_store_rowTo rfl 50 _ _ rfl rfl v1.heap.size #[.int .i64 wk, .int .i64 wa, .int .i64 wd] rfl rfl 50 _ (HNv.out _) (by kernel_rfl) rfl (by simp [Value.oneCell']) ?_
                     generalize hW3 : World.setRow _ _ _ = v2
                     obtain ⟨hc3, hu3⟩ := HXv.out v2 _ hW3
                     clear hW3
                     generalize hvb : v1.heap.size = vb at hc3 ⊢
                     have HV2 : Hid (Up wr2 v2 ∧ v2.heap[vb]? = some (.cells #[.int .i64 wk, .int .i64 wa, .int .i64 wd] 50 (0, 0)) ∧ wr2.heap.size ≤ vb) := ⟨HV1.out.trans hu3, hc3, by rw [← hvb]; exact HV1.out.size⟩
                     clear hu3 hc3 HNv HXv HV1 hvb)
        refine (HWy.out v2 HV2.out.1).mono ?_
        rintro e v3 ⟨rfl, uv3⟩
        have HV3 : Hid (Up wr2 v3 ∧ v3.heap[vb]? = some (.cells #[.int .i64 wk, .int .i64 wa, .int .i64 wd] 50 (0, 0)) ∧ wr2.heap.size ≤ vb) := ⟨HV2.out.1.trans uv3, (uv3.block vb (heap_at HV2.out.2.1)).trans HV2.out.2.1, HV2.out.2.2⟩
        clear uv3 HV2 HWx HWy
        have HNv : Hid (∀ o, (v3.alloc o).heap[v3.heap.size]? = some o) := heap_alloc_new v3
        have HXv : Hid _ := wantNew v3 wk wa wd
        go_wp2_with (refine wpList_store_rowTo rfl 50 _ _ rfl rfl v3.heap.size #[.int .i64 wk, .int .i64 wa, .int .i64 wd] rfl rfl 50 _ (HNv.out _) (by kernel_rfl) rfl (by simp [Value.oneCell']) ?_
                     generalize hW3 : World.setRow _ _ _ = v4
                     obtain ⟨hc3, hu3⟩ := HXv.out v4 _ hW3
                     clear hW3
                     generalize hvc : v3.heap.size = vc at hc3 ⊢
                     have HV4 : Hid (Up wr2 v4 ∧ v4.heap[vb]? = some (.cells #[.int .i64 wk, .int .i64 wa, .int .i64 wd] 50 (0, 0)) ∧ v4.heap[vc]? = some (.cells #[.int .i64 wk, .int .i64 wa, .int .i64 wd] 50 (0, 0)) ∧ wr2.heap.size ≤ vb ∧ wr2.heap.size ≤ vc) := ⟨HV3.out.1.trans hu3, (hu3.block vb (heap_at HV3.out.2.1)).trans HV3.out.2.1, hc3, HV3.out.2.2, by rw [← hvc]; exact HV3.out.1.size⟩
                     clear hu3 hc3 HNv HXv HV3 hvc)
        have hIl : I64 (atL ln L i) := atL_i64 HDl.out i
        have HAt : Hid (∀ w, Up W w → Calls Tryz.prog 14 #[.slice la ln lc, .int .i64 i] w fun e w' => e = .returned (.int .i64 (atL ln L i)) ∧ Up w w') := fun w u => at_list (HDl.out.up u) i (by omega)
        generalize atL ln L i = li at HAt hIl
        have HIl : Hid (I64 li) := hIl
        go_wp2_with fail
        refine (HAt.out v4 (M2.out.up.trans HV4.out.1)).mono ?_
        rintro e v5 ⟨rfl, uv5⟩
        have HV5 : Hid (Up wr2 v5) := HV4.out.1.trans uv5
        have HB5 : Hid (v5.heap[vb]? = some (.cells #[.int .i64 wk, .int .i64 wa, .int .i64 wd] 50 (0, 0)) ∧ v5.heap[vc]? = some (.cells #[.int .i64 wk, .int .i64 wa, .int .i64 wd] 50 (0, 0)) ∧ wr2.heap.size ≤ vb ∧ wr2.heap.size ≤ vc) := ⟨(uv5.block vb (heap_at HV4.out.2.1)).trans HV4.out.2.1, (uv5.block vc (heap_at HV4.out.2.2.1)).trans HV4.out.2.2.1, HV4.out.2.2.2⟩
        clear uv5 HV4
        go_wp2_with fail
        refine (M2.out.cycX li HIl.out HV5.out).mono ?_
        rintro e v6 ⟨rfl, cx, mx, u6⟩
        have HX6 : Hid (Cp v6 bx (p.tick (p.rdV f) li).1 ∧ Mem v6 gm (p.wrM f) ∧ Fr2 bx gm v5 v6) := ⟨cx, mx, u6⟩
        have HU6 : Hid (Up W v6) := by
          have q := M2.out.up.trans HV5.out
          exact ⟨u6.os.trans q.os, u6.output.trans q.output, Nat.le_trans q.size u6.size, fun k hk => (u6.block k (Nat.lt_of_lt_of_le hk q.size) (by have := M2.out.nx; omega) (by have := M2.out.nm; omega)).trans (q.block k hk)⟩
        have HB6 : Hid (v6.heap[vb]? = some (.cells #[.int .i64 wk, .int .i64 wa, .int .i64 wd] 50 (0, 0)) ∧ v6.heap[vc]? = some (.cells #[.int .i64 wk, .int .i64 wa, .int .i64 wd] 50 (0, 0))) := by
          obtain ⟨q1, q2, q3, q4⟩ := HB5.out
          have k1 := M2.out.kb bx M2.out.kx
          have k2 := M2.out.kb gm M2.out.km
          exact ⟨(u6.block vb (heap_at q1) (by omega) (by omega)).trans q1, (u6.block vc (heap_at q2) (by omega) (by omega)).trans q2⟩
        clear cx mx u6
        go_wp2_with fail
        refine (HAt.out v6 HU6.out).mono ?_
        rintro e v7 ⟨rfl, uv7⟩
        have HV7 : Hid (Up v6 v7) := uv7
        clear uv7
        go_wp2_with fail
        refine (M2.out.cycY li HIl.out HV5.out HX6.out.2.2 HV7.out).mono ?_
        rintro e v8 ⟨rfl, cy, my, u8⟩
        have HC8 : Hid (Cu W K bx ba' bk n gm gk (p.tick (p.rdV f) li).1 (p.wrM f) v8) := M2.out.cyc li HV5.out HX6.out.1 HX6.out.2.1 HX6.out.2.2 HV7.out cy my u8
        have HB8 : Hid (v8.heap[vb]? = some (.cells #[.int .i64 wk, .int .i64 wa, .int .i64 wd] 50 (0, 0)) ∧ v8.heap[vc]? = some (.cells #[.int .i64 wk, .int .i64 wa, .int .i64 wd] 50 (0, 0))) := by
          obtain ⟨q1, q2⟩ := HB6.out
          obtain ⟨_, _, q3, q4⟩ := HB5.out
          have k1 := M2.out.kb ba' M2.out.ky
          have k2 := M2.out.kb gk M2.out.kk
          exact ⟨(u8.block vb (heap_at ((HV7.out.block vb (heap_at q1)).trans q1)) (by omega) (by omega)).trans ((HV7.out.block vb (heap_at q1)).trans q1), (u8.block vc (heap_at ((HV7.out.block vc (heap_at q2)).trans q2)) (by omega) (by omega)).trans ((HV7.out.block vc (heap_at q2)).trans q2)⟩
        clear cy my u8 M2 HX6 HU6 HB6 HB5 HV5 HV7 HAt hIl HIl
        obtain ⟨pb0, pb1, pb2⟩ := res3 HB8.out.1
        obtain ⟨pc0, pc1, pc2⟩ := res3 HB8.out.2
        generalize (p.tick (p.rdV f) li).2 = tk
        clear HB8
        generalize (p.tick (p.rdV f) li).1 = p9 at HC8
        generalize p.wrM f = f9 at HC8
        go_wp2_with fail
        refine ⟨⟨i + 1, c, ba', n, p9, f9, K, by omega, by omega, by have := HN.out; omega, rfl, by first | rfl | (simp; done), by first | rfl | (simp; done), HC8⟩, ?_⟩
        simp [intOf]
        omega
    · have hie : i = 300 := by omega
      subst hie
      clear hn hi hci hlt
      have d1 : decide ((300 : Int) < 300) = false := by decide
      have M0 : Hid _ := M
      clear M
      go_wp2_with fail
      generalize wr = wq at M0 ⊢
      go_loopw [22] (fun J wr => ∃ j : Nat, j ≤ 65536 ∧ J = .int .i64 j ∧ Hid (Cu W K bx ba' bk n gm gk p f wr)) (fun J _ => 65536 - (intOf J).toNat)
      case atStart => exact ⟨0, by omega, rfl, M0⟩
      case round =>
        clear M0
        obtain ⟨j, hj, rfl, M1⟩ := hrel
        by_cases hlt : j < 65536
        · have d2 : decide ((j : Int) < 65536) = true := decide_eq_true (by omega)
          have e2 : (j : Int) < 65536 := by omega
          obtain ⟨km, _⟩ := M1.out.mm.2 j hlt
          obtain ⟨kn, _⟩ := M1.out.mn.2 j hlt
          generalize f j = x at km kn
          have e0 : (0 : Int) ≤ (j : Int) := by omega
          go_wp2_with (go_quiet (fail))
          refine ⟨⟨j + 1, by omega, by first | rfl | (simp; done), by first | exact M1 | exact M1.out.more (Up.drewN _ _) | exact M1.out.more (Up.refl _).drew⟩, ?_⟩
          simp [intOf]
          omega
        · have d2 : decide ((j : Int) < 65536) = false := decide_eq_false (by omega)
          clear hj
          have HRx : Hid (∀ w, Up wr w → Calls Tryz.prog 12 #[.pointer (some ⟨bx, 0, none⟩)] w fun e w' => e = .returned (.agg (toRg p).cells) ∧ Up w w') := fun w u => regs_any bx p w (M1.out.px.up u) M1.out.inv.ok
          have HRy : Hid (∀ w, Up wr w → Calls Tryz.prog 12 #[.pointer (some ⟨ba', 0, none⟩)] w fun e w' => e = .returned (.agg (toRg p).cells) ∧ Up w w') := fun w u => regs_any ba' p w (M1.out.py.up u) M1.out.inv.ok
          have HSx : Hid (∀ w, Up wr w → Calls Tryz.prog 18 #[.pointer (some ⟨bx, 0, none⟩)] w fun e w' => e = .returned (.slice (some ⟨w.heap.size, 0, none⟩) 22 22) ∧ NmAt w' w.heap.size 22 p.enc ∧ Up w w') := fun w u => state_any bx p w (M1.out.px.up u) M1.out.inv.ok
          have HSy : Hid (∀ w, Up wr w → Calls Tryz.prog 18 #[.pointer (some ⟨ba', 0, none⟩)] w fun e w' => e = .returned (.slice (some ⟨w.heap.size, 0, none⟩) 22 22) ∧ NmAt w' w.heap.size 22 p.enc ∧ Up w w') := fun w u => state_any ba' p w (M1.out.py.up u) M1.out.inv.ok
          have HLk : Hid (∀ w, Up wr w → Calls Tryz.prog 25 #[.pointer (some ⟨bk, 0, none⟩)] w fun e w' => e = .returned (.bool true) ∧ Up w w') := fun w u => looks_any (M1.out.bk.up u)
          have HFin : Hid (∀ w, Up wr w → Up W w) := fun w u => M1.out.up.trans u
          clear M1
          generalize p.enc = F at HSx HSy
          generalize toRg p = G at HRx HRy
          go_wp2_with fail
          refine (HRx.out wr (Up.refl wr)).mono ?_
          rintro e w1 ⟨rfl, u1⟩
          have HU1 : Hid (Up wr w1) := u1
          have HN1 : Hid (∀ o, (w1.alloc o).heap[w1.heap.size]? = some o) := heap_alloc_new w1
          have HX1 : Hid _ := rgNew w1 G
          clear u1
          go_wp2_with (refine wpList_store_rowTo rfl 23 _ _ rfl rfl w1.heap.size G.cells rfl rfl 23 #[.int .i64 0, .int .i64 0, .int .i64 0, .int .i64 0, .int .i64 0, .int .i64 0, .int .i64 0, .int .i64 0, .int .i64 0, .int .i64 0, .bool false, .int .i64 0] (HN1.out _) (by kernel_rfl) rfl (rgOne G) ?_
                       generalize hW3 : World.setRow _ _ _ = w2
                       obtain ⟨hc3, hu3⟩ := HX1.out w2 _ hW3
                       clear hW3
                       generalize w1.heap.size = sb at hc3 ⊢
                       have H2 : Hid (Up wr w2 ∧ RgAt w2 sb G) := ⟨HU1.out.trans hu3, hc3⟩
                       clear hc3 hu3 HX1 HN1 HU1)
          refine (HRy.out w2 H2.out.1).mono ?_
          rintro e w3 ⟨rfl, u3⟩
          have H3 : Hid (Up wr w3 ∧ RgAt w3 sb G) := ⟨H2.out.1.trans u3, (u3.block sb (heap_at H2.out.2)).trans H2.out.2⟩
          have HN3 : Hid (∀ o, (w3.alloc o).heap[w3.heap.size]? = some o) := heap_alloc_new w3
          have HX3 : Hid _ := rgNew w3 G
          clear u3 H2
          go_wp2_with (refine wpList_store_rowTo rfl 23 _ _ rfl rfl w3.heap.size G.cells rfl rfl 23 #[.int .i64 0, .int .i64 0, .int .i64 0, .int .i64 0, .int .i64 0, .int .i64 0, .int .i64 0, .int .i64 0, .int .i64 0, .int .i64 0, .bool false, .int .i64 0] (HN3.out _) (by kernel_rfl) rfl (rgOne G) ?_
                       generalize hW3 : World.setRow _ _ _ = w4
                       obtain ⟨hc3, hu3⟩ := HX3.out w4 _ hW3
                       clear hW3
                       generalize w3.heap.size = tb at hc3 ⊢
                       have H4 : Hid (Up wr w4 ∧ RgAt w4 sb G ∧ RgAt w4 tb G) := ⟨H3.out.1.trans hu3, (hu3.block sb (heap_at H3.out.2)).trans H3.out.2, hc3⟩
                       clear hc3 hu3 HX3 HN3 H3)
          refine (HSx.out w4 H4.out.1).mono ?_
          rintro e w5 ⟨rfl, n5, u5⟩
          generalize w4.heap.size = g5 at n5 ⊢
          have H5 : Hid (Up wr w5 ∧ RgAt w5 sb G ∧ RgAt w5 tb G ∧ NmAt w5 g5 22 F) := ⟨H4.out.1.trans u5, (u5.block sb (heap_at H4.out.2.1)).trans H4.out.2.1, (u5.block tb (heap_at H4.out.2.2)).trans H4.out.2.2, n5⟩
          clear n5 u5 H4
          go_wp2_with fail
          refine (HSy.out w5 H5.out.1).mono ?_
          rintro e w6 ⟨rfl, n6, u6⟩
          generalize w5.heap.size = g6 at n6 ⊢
          have H6 : Hid (Up wr w6 ∧ RgAt w6 sb G ∧ RgAt w6 tb G ∧ NmAt w6 g5 22 F ∧ NmAt w6 g6 22 F) := ⟨H5.out.1.trans u6, (u6.block sb (heap_at H5.out.2.1)).trans H5.out.2.1, (u6.block tb (heap_at H5.out.2.2.1)).trans H5.out.2.2.1, H5.out.2.2.2.of_block (u6.block g5 H5.out.2.2.2.lt), n6⟩
          clear n6 u6 H5
          go_wp2_with fail
          refine (HLk.out w6 H6.out.1).mono ?_
          rintro e w7 ⟨rfl, u7⟩
          have hU7 : Hid (Up W w7) := HFin.out w7 (H6.out.1.trans u7)
          obtain ⟨r0, r1, r2, r3, r4, r5, r6, r7, r8, r9, r10, r11⟩ := regBlock G ((u7.block sb (heap_at H6.out.2.1)).trans H6.out.2.1)
          obtain ⟨s0, s1, s2, s3, s4, s5, s6, s7, s8, s9, s10, s11⟩ := regBlock G ((u7.block tb (heap_at H6.out.2.2.1)).trans H6.out.2.2.1)
          have q5 := (H6.out.2.2.2.1.of_block (u7.block g5 H6.out.2.2.2.1.lt)).conv 22
          have q6 := (H6.out.2.2.2.2.of_block (u7.block g6 H6.out.2.2.2.2.lt)).conv 22
          generalize strN 22 F = S at q5 q6
          obtain ⟨ja, jf, jb, jc, jd, je, jh, jl, jsp, jpc, jime, jst⟩ := G
          clear u7 H6 HRx HRy HSx HSy HLk HFin
          go_wp2_with (go_quiet (fail))
          go_ret
          exact ⟨by first | rfl | (simp; done), by first | exact hU7.out | exact hU7.out.trans (Up.drewN _ _)⟩
end Go.Proofs.YtlgfpddiebdmaaaGreatDoor
/- Proved: for all arguments the law CpuCut answers true, where the table of bits is as the program's text lays it. -/
namespace Go.Proofs.YtlgfpddiebdmaaaGreatDoor.cpuCut
open Go.ChangeShapes Go.WideShapes Go.ChangeAt Go.RowKit Go.Deep
set_option linter.unusedVariables false
theorem own : ownKnob Tryz.prog.godebug = none := by kernel_rfl
theorem cells3 : Tryz.prog.cellsOf 3 = 1 := by kernel_rfl
theorem cells4 : Tryz.prog.cellsOf 4 = 1 := by kernel_rfl
theorem cellsR : Tryz.prog.cellsOf 23 = 12 := by kernel_rfl
theorem laidOut : laidOutB Tryz.prog = true := by kernel_rfl
/-- What was there is as it was: the frame. -/
theorem grownOf {w w' : World} (h : Up w w') : w.keptBut w' (fun _ => False) := by
  refine ⟨h.os, h.output, fun i hi => ?_⟩
  rw [h.block i hi]
  split
  · rename_i h1 h2
    obtain ⟨rfl, rfl, rfl⟩ := by simpa using h1.symm.trans h2
    exact ⟨rfl, rfl, rfl, fun _ _ => rfl⟩
  · rename_i h1 h2
    obtain ⟨rfl, rfl⟩ := by simpa using h1.symm.trans h2
    exact Or.inr ⟨rfl, rfl⟩
  · rfl
theorem i64Of {z : Int} (h : (Lit.int .i64 z).wf = true) : I64 z := bounds_i64 h
set_option maxRecDepth 100000 in
theorem list12 {α : Type} : (l : List α) → l.length = 12 → ∃ a0 a1 a2 a3 a4 a5 a6 a7 a8 a9 a10 a11, l = [a0, a1, a2, a3, a4, a5, a6, a7, a8, a9, a10, a11]
  | [a0, a1, a2, a3, a4, a5, a6, a7, a8, a9, a10, a11], _ => ⟨a0, a1, a2, a3, a4, a5, a6, a7, a8, a9, a10, a11, rfl⟩
set_option maxRecDepth 100000 in
/-- The registers as they come in. -/
theorem regs_of {H : Type} {enc : TypeId × Value → H} {W : World} {n : Nat} {sp : Nat → Bool} {cs : Array Value} {x : DataW H × List MemPlace} (hs : cs.size = 12)
    (h2 : DataW.trod enc Tryz.prog W 0 sp true n 23 cs.toList = some x) : ∃ g : Rg, g.In ∧ cs = g.cells ∧ x.2 = [] := by
  obtain ⟨xs, k, hk, hxy, _, hxl, hf⟩ := DataW.trod_struct Tryz.underlying23 h2
  obtain ⟨cs⟩ := cs
  simp only [List.size_toArray] at hs
  obtain ⟨v0, v1, v2, v3, v4, v5, v6, v7, v8, v9, v10, v11, rfl⟩ := list12 cs hs
  obtain ⟨y0, y1, y2, y3, y4, y5, y6, y7, y8, y9, y10, y11, rfl⟩ := list12 xs hxl
  have g0 := hf 0 _ rfl
  have g1 := hf 1 _ rfl
  have g2 := hf 2 _ rfl
  have g3 := hf 3 _ rfl
  have g4 := hf 4 _ rfl
  have g5 := hf 5 _ rfl
  have g6 := hf 6 _ rfl
  have g7 := hf 7 _ rfl
  have g8 := hf 8 _ rfl
  have g9 := hf 9 _ rfl
  have g10 := hf 10 _ rfl
  have g11 := hf 11 _ rfl
  simp [cells3, cells4] at g0 g1 g2 g3 g4 g5 g6 g7 g8 g9 g10 g11
  obtain ⟨z0, e0, f0, w0⟩ := DataW.trod_int Tryz.underlying3 g0
  obtain ⟨z1, e1, f1, w1⟩ := DataW.trod_int Tryz.underlying3 g1
  obtain ⟨z2, e2, f2, w2⟩ := DataW.trod_int Tryz.underlying3 g2
  obtain ⟨z3, e3, f3, w3⟩ := DataW.trod_int Tryz.underlying3 g3
  obtain ⟨z4, e4, f4, w4⟩ := DataW.trod_int Tryz.underlying3 g4
  obtain ⟨z5, e5, f5, w5⟩ := DataW.trod_int Tryz.underlying3 g5
  obtain ⟨z6, e6, f6, w6⟩ := DataW.trod_int Tryz.underlying3 g6
  obtain ⟨z7, e7, f7, w7⟩ := DataW.trod_int Tryz.underlying3 g7
  obtain ⟨z8, e8, f8, w8⟩ := DataW.trod_int Tryz.underlying3 g8
  obtain ⟨z9, e9, f9, w9⟩ := DataW.trod_int Tryz.underlying3 g9
  obtain ⟨z10, e10, f10⟩ := DataW.trod_bool Tryz.underlying4 g10
  obtain ⟨z11, e11, f11, w11⟩ := DataW.trod_int Tryz.underlying3 g11
  simp at e0 e1 e2 e3 e4 e5 e6 e7 e8 e9 e10 e11
  subst e0 e1 e2 e3 e4 e5 e6 e7 e8 e9 e10 e11
  refine ⟨⟨z0, z1, z2, z3, z4, z5, z6, z7, z8, z9, z10, z11⟩, ⟨i64Of w0, i64Of w1, i64Of w2, i64Of w3, i64Of w4, i64Of w5, i64Of w6, i64Of w7, i64Of w8, i64Of w9⟩, rfl, ?_⟩
  rw [hxy, f0, f1, f2, f3, f4, f5, f6, f7, f8, f9, f10, f11]
  rfl
theorem up_same {W W' : World} (h : Up W W') {p : MemPlace} (hp : p.block < W.heap.size) : W.sameAt W' p := by
  cases p with
  | cell b off => exact h.cell hp
  | map b => exact h.block b hp
set_option maxRecDepth 100000 in
/-- Numbers as they come in. -/
theorem ints_of {H : Type} {enc : TypeId × Value → H} {W : World} {n : Nat} {aa : Option Addr} {len cap : Nat} {x : DataW H × List MemPlace}
    (h2 : DataW.trod enc Tryz.prog W 0 (fun _ => true) true n 24 [.slice aa len cap] = some x) :
    ∃ (ab ao : Nat) (f : Nat → Int), Ints W aa ab ao len cap f := by
  have z0 : I64 0 := by unfold I64; decide
  rcases open_ints Tryz.underlying24 Tryz.underlying3 cells3 h2 with ⟨hcs, hx⟩ | ⟨a, len', cap', zs, hcs, _, hl, hm, hz, hx, hcell, hwz⟩
  · simp at hcs
    obtain ⟨rfl, rfl, rfl⟩ := hcs
    exact ⟨0, 0, fun _ => 0, Nat.le_refl _, Nat.zero_le _, fun h => by omega, fun _ => z0, fun k hk => by omega⟩
  · simp at hcs
    obtain ⟨rfl, rfl, rfl⟩ := hcs
    simp only [if_true] at hz
    by_cases h0 : len = 0
    · subst h0
      exact ⟨0, 0, fun _ => 0, hl, hm, fun h => by omega, fun _ => z0, fun k hk => by omega⟩
    · obtain ⟨b, off, spot⟩ := a
      have hspot : spot = none := by simpa [Addr.add] using World.cell?_spot (hcell 0 (by omega))
      subst hspot
      refine ⟨b, off, fun k => zs.getD k 0, hl, hm, fun _ => rfl, fun k => ?_, fun k hk => by have hc := hcell k (by omega); rw [show (⟨b, off, none⟩ : Addr).add k = ⟨b, off + k, none⟩ by unfold Addr.add; split <;> simp_all] at hc; exact hc⟩
      show I64 (zs.getD k 0)
      rw [List.getD_eq_getElem?_getD]
      cases h : zs[k]? with
      | none => exact z0
      | some y => exact i64Of (hwz y (List.mem_of_getElem? h))
theorem cellsU : Tryz.prog.cellsOf 5 = 1 := by kernel_rfl
set_option maxRecDepth 100000 in
/-- Bytes as they come in. -/
theorem bytes_of {H : Type} {enc : TypeId × Value → H} {W : World} {n : Nat} {aa : Option Addr} {len cap : Nat} {x : DataW H × List MemPlace}
    (h2 : DataW.trod enc Tryz.prog W 0 (fun _ => true) true n 28 [.slice aa len cap] = some x) :
    ∃ (ab ao : Nat) (f : Nat → Int), Byts W aa ab ao len cap f := by
  have z0 : (0 : Int) ≤ 0 ∧ (0 : Int) ≤ 255 := by decide
  rcases open_ints Tryz.underlying28 Tryz.underlying5 cellsU h2 with ⟨hcs, hx⟩ | ⟨a, len', cap', zs, hcs, _, hl, hm, hz, hx, hcell, hwz⟩
  · simp at hcs
    obtain ⟨rfl, rfl, rfl⟩ := hcs
    exact ⟨0, 0, fun _ => 0, Nat.le_refl _, Nat.zero_le _, fun h => by omega, fun _ => z0, fun k hk => by omega⟩
  · simp at hcs
    obtain ⟨rfl, rfl, rfl⟩ := hcs
    simp only [if_true] at hz
    by_cases h0 : len = 0
    · subst h0
      exact ⟨0, 0, fun _ => 0, hl, hm, fun h => by omega, fun _ => z0, fun k hk => by omega⟩
    · obtain ⟨b, off, spot⟩ := a
      have hspot : spot = none := by simpa [Addr.add] using World.cell?_spot (hcell 0 (by omega))
      subst hspot
      refine ⟨b, off, fun k => zs.getD k 0, hl, hm, fun _ => rfl, fun k => ?_, fun k hk => by have hc := hcell k (by omega); rw [show (⟨b, off, none⟩ : Addr).add k = ⟨b, off + k, none⟩ by unfold Addr.add; split <;> simp_all] at hc; exact hc⟩
      show 0 ≤ zs.getD k 0 ∧ zs.getD k 0 ≤ 255
      rw [List.getD_eq_getElem?_getD]
      cases h : zs[k]? with
      | none => exact z0
      | some y => exact bounds_u8 (hwz y (List.mem_of_getElem? h))
theorem lits_len (k : IntKind) {H : Type} (zs : List Int) : (lits (H := H) k zs).length = zs.length := by unfold lits; simp
theorem bnd {H : Type} {enc : TypeId × Value → H} {W : World} {n len cap j : Nat} {t e : TypeId} {k : IntKind} {aa : Option Addr} {d : DataW H} {p : List MemPlace} {ts : List TypeId} {ds : List (DataW H)}
    (ht : Tryz.prog.underlying t = some (.slice e)) (he : Tryz.prog.underlying e = some (.int k)) (hc : Tryz.prog.cellsOf e = 1) (hb : 1 ≤ Tryz.prog.bytesOf e)
    (h2 : DataW.trod enc Tryz.prog W 0 (fun _ => true) true n t [.slice aa len cap] = some (d, p)) (hz : (DataW.weightsEach Tryz.prog ts ds).all (· ≤ reachBytes) = true)
    (hj : ts[j]? = some t) (hd : ds[j]? = some d) : len ≤ 140737488351232 := by
  rcases open_ints ht he hc h2 with ⟨h, _⟩ | ⟨a, l, c, zs, h, _, hl, _, hlen, hx, _⟩
  · simp at h
    omega
  · simp at h
    obtain ⟨rfl, rfl, rfl⟩ := h
    obtain ⟨rfl, _⟩ := Prod.mk.inj hx
    have h3 := sized_slice hz hj hd ht
    rw [lits_len, lits_len, ← List.length_append, List.take_append_drop, hlen, if_pos rfl] at h3
    have h4 : len ≤ len * Tryz.prog.bytesOf e := Nat.le_mul_of_pos_right _ hb
    have h5 : len * Tryz.prog.bytesOf e ≤ cap * Tryz.prog.bytesOf e := Nat.mul_le_mul_right _ hl
    have h6 : reachBytes = 140737488351232 := rfl
    omega
theorem cellsP : Tryz.prog.cellsOf 31 = 2 := by kernel_rfl
theorem cellsS : Tryz.prog.cellsOf 28 = 1 := by kernel_rfl
theorem addOf {b off k : Nat} : (⟨b, off, none⟩ : Addr).add k = ⟨b, off + k, none⟩ := by unfold Addr.add; split <;> simp_all
theorem wAll_mem {H : Type} {P : Program} {e : TypeId} {d : DataW H} : ∀ {l : List (DataW H)}, d ∈ l → ∀ n ∈ d.weights P e, n ∈ DataW.weightsAll P e l
  | [], h, _, _ => by cases h
  | x :: r, h, n, hn => by
    simp only [DataW.weightsAll, List.mem_append]
    rcases List.mem_cons.1 h with rfl | h
    · exact Or.inl hn
    · exact Or.inr (wAll_mem h n hn)
theorem inner_bnd {H : Type} {enc : TypeId × Value → H} {W : World} {n len cap : Nat} {aa : Option Addr} {d : DataW H} {p : List MemPlace}
    (h2 : DataW.trod enc Tryz.prog W 0 (fun _ => true) true n 28 [.slice aa len cap] = some (d, p)) (hz : ∀ n ∈ d.weights Tryz.prog 28, n ≤ reachBytes) : len ≤ 140737488355328 := by
  rcases open_ints Tryz.underlying28 Tryz.underlying5 cellsU h2 with ⟨h, _⟩ | ⟨a, l, c, zs, h, _, hl, _, hlen, hx, _⟩
  · simp at h
    omega
  · simp at h
    obtain ⟨rfl, rfl, rfl⟩ := h
    obtain ⟨rfl, _⟩ := Prod.mk.inj hx
    have h3 := hz _ (by simp only [DataW.weights, Tryz.underlying28]; exact List.mem_cons_self ..)
    rw [lits_len, lits_len, ← List.length_append, List.take_append_drop, hlen, if_pos rfl] at h3
    have hb : 1 ≤ Tryz.prog.bytesOf 5 := of_decide_eq_true (by kernel_rfl)
    have h4 : len ≤ len * Tryz.prog.bytesOf 5 := Nat.le_mul_of_pos_right _ hb
    have h5 : len * Tryz.prog.bytesOf 5 ≤ cap * Tryz.prog.bytesOf 5 := Nat.mul_le_mul_right _ hl
    have h6 : reachBytes = 140737488351232 := rfl
    omega
set_option maxRecDepth 100000 in
/-- Pieces as they come in. -/
theorem pieces_of {H : Type} {enc : TypeId × Value → H} {W : World} {n : Nat} {v : Value} {x : DataW H × List MemPlace}
    (h2 : DataW.trod enc Tryz.prog W 0 (fun _ => true) true n 32 [v] = some x) (hz : ∀ n ∈ x.1.weights Tryz.prog 32, n ≤ reachBytes) :
    ∃ (pa : Option Addr) (pb po pl pc : Nat) (P : Nat → Pce), v = .slice pa pl pc ∧ PcsG W pa pb po pl pc P := by
  have z0 : I64 0 := by unfold I64; decide
  have dflt : Pce := ⟨0, none, 0, 0, 0, 0, fun _ => 0⟩
  rcases open_slice_pairs Tryz.underlying32 Tryz.underlying31 cellsP rfl rfl cells3 cellsS h2 with ⟨hcs, hx⟩ | ⟨a, len, cap, m, n', V0, V1, D0, D1, P0, P1, hcs, hb, hl, hm, hmm, hx, hxx⟩
  · simp at hcs
    subst hcs
    exact ⟨none, 0, 0, 0, 0, fun _ => ⟨0, none, 0, 0, 0, 0, fun _ => 0⟩, rfl, Nat.le_refl _, Nat.zero_le _, fun h => by omega, fun _ => z0, fun i hi => by omega, fun i hi => by omega, fun i hi => by omega, fun i hi => by omega⟩
  · simp at hcs
    subst hcs
    simp only [if_true] at hmm
    rw [hmm] at hxx
    have each : ∀ i, i < cap → ∃ q : Pce, I64 q.at' ∧ W.cell? (a.add (i * 2)) = some (.int .i64 q.at') ∧ W.cell? (a.add (i * 2 + 1)) = some (.slice q.aa q.len q.cap) ∧ Byts W q.aa q.ab q.ao q.len q.cap q.f ∧ (i < len → q.len ≤ 140737488355328) := by
      intro i hi
      obtain ⟨c0, c1, t0, t1⟩ := hxx i hi
      obtain ⟨z, e0, f0, w0⟩ := DataW.trod_int Tryz.underlying3 t0
      simp at e0
      have hv : ∃ aa len cap, V1 i = .slice aa len cap := by
        rcases open_slice Tryz.underlying28 t1 with ⟨h, _⟩ | ⟨a', l', c', _, _, _, _, h, _⟩
        · simp at h
          exact ⟨_, _, _, h⟩
        · simp at h
          exact ⟨_, _, _, h⟩
      obtain ⟨aa, l1, c1', hv⟩ := hv
      rw [hv] at t1 c1
      obtain ⟨ab, ao, f, B⟩ := bytes_of t1
      refine ⟨⟨z, aa, ab, ao, l1, c1', f⟩, i64Of w0, by rw [c0, e0], c1, B, fun hil => inner_bnd t1 (fun k hk => hz k ?_)⟩
      rw [hx]
      simp only [DataW.weights, Tryz.underlying32]
      refine List.mem_cons_of_mem _ (List.mem_append.2 (Or.inl (wAll_mem (d := .agg [D0 i, D1 i]) (List.mem_map.2 ⟨i, List.mem_range.2 hil, rfl⟩) k ?_)))
      simp only [DataW.weights, Tryz.underlying31]
      show k ∈ DataW.weightsEach Tryz.prog [3, 28] [D0 i, D1 i]
      simp only [DataW.weightsEach, List.mem_append]
      exact Or.inr (Or.inl hk)
    have all : ∀ i, ∃ q : Pce, I64 q.at' ∧ (i < cap → W.cell? (a.add (i * 2)) = some (.int .i64 q.at') ∧ W.cell? (a.add (i * 2 + 1)) = some (.slice q.aa q.len q.cap) ∧ Byts W q.aa q.ab q.ao q.len q.cap q.f ∧ (i < len → q.len ≤ 140737488355328)) := fun i => by
      by_cases hi : i < cap
      · obtain ⟨q, h1, h2⟩ := each i hi
        exact ⟨q, h1, fun _ => h2⟩
      · exact ⟨⟨0, none, 0, 0, 0, 0, fun _ => 0⟩, z0, fun h => absurd h hi⟩
    obtain ⟨Q, hQ⟩ : ∃ Q : Nat → Pce, ∀ i, I64 (Q i).at' ∧ (i < cap → W.cell? (a.add (i * 2)) = some (.int .i64 (Q i).at') ∧ W.cell? (a.add (i * 2 + 1)) = some (.slice (Q i).aa (Q i).len (Q i).cap) ∧ Byts W (Q i).aa (Q i).ab (Q i).ao (Q i).len (Q i).cap (Q i).f ∧ (i < len → (Q i).len ≤ 140737488355328)) := ⟨fun i => Classical.choose (all i), fun i => Classical.choose_spec (all i)⟩
    by_cases h0 : len = 0
    · subst h0
      exact ⟨some a, 0, 0, 0, cap, Q, rfl, hl, hm, fun h => by omega, fun i => (hQ i).1, fun i hi => by omega, fun i hi => by omega, fun i hi => by omega, fun i hi => by omega⟩
    · obtain ⟨b, off, spot⟩ := a
      have hspot : spot = none := by simpa [Addr.add] using World.cell?_spot (((hQ 0).2 (by omega)).1)
      subst hspot
      refine ⟨some ⟨b, off, none⟩, b, off, len, cap, Q, rfl, hl, hm, fun _ => rfl, fun i => (hQ i).1, fun i hi => ?_, fun i hi => ?_, fun i hi => ((hQ i).2 (by omega)).2.2.2 hi, fun i hi => ((hQ i).2 (by omega)).2.2.1⟩
      · have := ((hQ i).2 (by omega)).1
        rw [addOf] at this
        exact this
      · have := ((hQ i).2 (by omega)).2.1
        rw [addOf, ← Nat.add_assoc] at this
        exact this
/-- The door's own heap meets the condition. -/
theorem door_met (os : Os) (args : Array Value) : laidMetH Tryz.prog Rows.cpuCutRow.laid ((World.doorLaid Tryz.prog 400 os).forCall (fun _ _ => 0) ⟨#[], args, []⟩).memory :=
  laidMetH_of_parts3 (fuel := 8) (laidMet_of_run' 8 (by kernel_rfl) (by kernel_rfl)) (by kernel_rfl) (by kernel_rfl)
/-- What the condition gives the walk: the table's cells. -/
theorem of_laid (W : World) (h : laidMetH Tryz.prog Rows.cpuCutRow.laid W) : LaidB W := by
  rw [MakeChecks.laidMetH_plain _ _ _ (by kernel_rfl)] at h
  have t : Lib.TabIs Tryz.prog W "arcade/alu.bits" .u8 [1, 2, 4, 8, 16, 32, 64, 128] :=
    Lib.tabIs_of_head (rest := []) (g := 0) (t := 61) (e := 5) (n := 8) (by kernel_rfl) (by kernel_rfl) Tryz.underlying61 Tryz.underlying5 (by kernel_rfl) (by kernel_rfl) h
  have c := fun i hi => t.cell (by kernel_rfl : Tryz.prog.globalNamed "arcade/alu.bits" = some 0) i hi
  refine ⟨World.block_lt_of_cell? _ _ (c 0 (by decide)), fun i hi => ?_⟩
  rw [c i hi]
  have : i = 0 ∨ i = 1 ∨ i = 2 ∨ i = 3 ∨ i = 4 ∨ i = 5 ∨ i = 6 ∨ i = 7 := by omega
  rcases this with rfl | rfl | rfl | rfl | rfl | rfl | rfl | rfl <;> rfl

set_option maxRecDepth 100000 in
theorem lifted (os : Os) (started : os.Started) (H : Type) (enc : TypeId × Value → H) :
    ReturnsInHanded {} Tryz.checked os 5 .any (fun w args => (Rows.cpuCutSpec.pre enc Tryz.prog Tryz.f5 [] false w args ∧ laidMetH Tryz.prog Rows.cpuCutRow.laid w) ∧ sizedMet enc Tryz.prog Tryz.f5 (OpenSpec.ofChange Rows.cpuCutSpec) false w args)
      (Rows.cpuCutSpec.post enc Tryz.prog Tryz.f5 false true false false) := by
  refine returnsInHanded_of_change_and (C := Tryz.checked) (X := fun w _ => laidMetH Tryz.prog Rows.cpuCutRow.laid w) (fun _ _ _ hh h => h.of_heap hh) own started (by kernel_rfl) Tryz.func5
    (ChangeSpec.witness_shaped (enc := enc) (C := Tryz.checked) (os := os) (X := fun w _ => laidMetH Tryz.prog Rows.cpuCutRow.laid w) false (World.doorLaid Tryz.prog 400 os) #[.slice none 0 0, .agg #[.int .i64 0, .int .i64 0, .int .i64 0, .int .i64 0, .int .i64 0, .int .i64 0, .int .i64 0, .int .i64 0, .int .i64 0, .int .i64 0, .bool false, .int .i64 0], .slice none 0 0, .slice none 0 0] 8 rfl (World.shaped_of_RefB (by kernel_rfl) (by kernel_rfl)) (by kernel_rfl) (by kernel_rfl) (by kernel_rfl) (door_met os _)) ?_
  intro W base args ds gs before hval0 hW _ hz0 hL _
  have hz : (DataW.weightsEach Tryz.prog (Tryz.f5.params.toList ++ Rows.cpuCutSpec.plain.varTypes Tryz.prog) (ds ++ gs)).all (· ≤ reachBytes) = true := hz0
  clear hz0
  have hval : ∀ (j : Nat) t v, Tryz.f5.params[j]? = some t → args[j]? = some v → Value.okWide Tryz.prog W .any base t v := hval0
  have hW' := hW
  obtain ⟨p, q, hA0, hV, rfl, hfz, hnd⟩ := hW
  have hA : DataW.TrodAll enc Tryz.prog W 0 (fun _ => true) true Tryz.f5.params.toList args.toList ds p := hA0
  rw [Tryz.params5] at hA hval
  obtain ⟨v0, vs0, d0, ds0, p0, q0, hargs, rfl, rfl, h0, r0⟩ := trodAll_cons hA
  obtain ⟨v1, vs1, d1, ds1, p1, q1, rfl, rfl, rfl, h1, r1⟩ := trodAll_cons r0
  obtain ⟨v2, vs2, d2, ds2, p2, q2, rfl, rfl, rfl, h2, r2⟩ := trodAll_cons r1
  obtain ⟨v3, vs3, d3, ds3, p3, q3, rfl, rfl, rfl, h3, r3⟩ := trodAll_cons r2
  obtain ⟨rfl, rfl, rfl⟩ := trodAll_nil r3
  obtain rfl : args = #[v0, v1, v2, v3] := by cases args; simp_all
  obtain ⟨rfl, rfl⟩ := trodVars_none hV
  have k0 := h0
  obtain ⟨fuel0, hf0⟩ := h0
  have hlt0 : ∀ x ∈ p0, x.block < W.heap.size := fun x hx => by simpa using hW'.lt x (by simp [hx])
  obtain ⟨aa0, len0, cap0, rfl⟩ := okWide_slice Tryz.underlying32 (hval 0 32 v0 rfl rfl)
  obtain ⟨pa0, pb0, po0, pl0, pc0, P0, he0, A0⟩ := pieces_of (by simpa [Value.cells] using hf0) (fun n hn => by
    have := List.all_eq_true.1 hz n (DataW.weights_mem_each (j := 0) (t := 32) (d := d0) (by rw [Tryz.params5]; rfl) rfl n hn)
    simpa using this)
  injection he0 with e10 e20 e30
  subst e10 e20 e30
  have k1 := h1
  obtain ⟨fuel1, hf1⟩ := h1
  have hlt1 : ∀ x ∈ p1, x.block < W.heap.size := fun x hx => by simpa using hW'.lt x (by simp [hx])
  obtain ⟨cs1, rfl, hcs1⟩ := okWide_struct Tryz.underlying23 (hval 1 23 v1 rfl rfl)
  rw [cellsR] at hcs1
  obtain ⟨g1, hg1, rfl, hp1⟩ := regs_of hcs1 (by simpa [Value.cells] using hf1)
  simp only at hp1
  subst hp1
  have k2 := h2
  obtain ⟨fuel2, hf2⟩ := h2
  have hlt2 : ∀ x ∈ p2, x.block < W.heap.size := fun x hx => by simpa using hW'.lt x (by simp [hx])
  obtain ⟨aa2, len2, cap2, rfl⟩ := okWide_slice Tryz.underlying24 (hval 2 24 v2 rfl rfl)
  obtain ⟨ab2, ao2, f2, A2⟩ := ints_of (by simpa [Value.cells] using hf2)
  have k3 := h3
  obtain ⟨fuel3, hf3⟩ := h3
  have hlt3 : ∀ x ∈ p3, x.block < W.heap.size := fun x hx => by simpa using hW'.lt x (by simp [hx])
  obtain ⟨aa3, len3, cap3, rfl⟩ := okWide_slice Tryz.underlying24 (hval 3 24 v3 rfl rfl)
  obtain ⟨ab3, ao3, f3, A3⟩ := ints_of (by simpa [Value.cells] using hf3)
  clear hA0 hval0
  refine (cut_walk A0 g1 hg1 A2 A3 (of_laid W hL)).mono fun e W' ⟨he, hu⟩ => ?_
  subst he
  have stay0 : DataW.Trod enc Tryz.prog W' 0 (fun b => decide (b < W.heap.size)) true 32 (.slice aa0 len0 cap0) d0 p0 :=
    WideElems.Trod_stays laidOut (by kernel_rfl) (of_decide_eq_true (by kernel_rfl)) k0 (fun x hx => up_same hu (hlt0 x hx)) (fun x hx => by simpa using hlt0 x hx)
  have stay1 : DataW.Trod enc Tryz.prog W' 0 (fun b => decide (b < W.heap.size)) true 23 (.agg g1.cells) d1 [] :=
    WideElems.Trod_stays laidOut (by kernel_rfl) (of_decide_eq_true (by kernel_rfl)) k1 (fun x hx => by cases hx) (fun x hx => by cases hx)
  have stay2 : DataW.Trod enc Tryz.prog W' 0 (fun b => decide (b < W.heap.size)) true 24 (.slice aa2 len2 cap2) d2 p2 :=
    WideElems.Trod_stays laidOut (by kernel_rfl) (of_decide_eq_true (by kernel_rfl)) k2 (fun x hx => up_same hu (hlt2 x hx)) (fun x hx => by simpa using hlt2 x hx)
  have stay3 : DataW.Trod enc Tryz.prog W' 0 (fun b => decide (b < W.heap.size)) true 24 (.slice aa3 len3 cap3) d3 p3 :=
    WideElems.Trod_stays laidOut (by kernel_rfl) (of_decide_eq_true (by kernel_rfl)) k3 (fun x hx => up_same hu (hlt3 x hx)) (fun x hx => by simpa using hlt3 x hx)
  exact ⟨_, rfl, _, _, _, [], _, [], hW', trodAll_mk1 (shut_bool Tryz.underlying4 _), (trodAll_cons_mk stay0 (trodAll_cons_mk stay1 (trodAll_cons_mk stay2 (trodAll_cons_mk stay3 trodAll_mk0)))), rfl, World.keptBut_mono (fun _ f => f.elim) (grownOf hu), fun h => by cases h⟩

theorem over : Rows.cpuCutRow.holds Tryz.pinned (OpenSpec.ofChange Rows.cpuCutSpec) :=
  OpenClaim.holds_of_wide 5 Tryz.f5 rfl rfl rfl rfl rfl rfl rfl ⟨rfl, rfl, rfl, rfl, rfl⟩ rfl rfl rfl rfl rfl (by kernel_rfl) Tryz.func5 (by kernel_rfl)
    (of_decide_eq_true (by kernel_rfl)) (by unfold Func.isWrapper; first | (rw [if_pos (by decide +kernel)]; kernel_rfl) | (rw [if_neg (by decide +kernel)]; exact ⟨rfl, rfl⟩))
    (fun os started H enc _ => lifted os started H enc)
theorem proved : Rows.CpuCutSaid := over
/-- The card: the row, its table tied to the program's text. -/
theorem card : Rows.CpuCutCardSaid :=
  Claim7.holds_tied_plain_at .later [] [.data] true (true, "ccec7872bd9fd49760934f35ccc4c92b632be30c9b1b032e154f09249ab238b5") false
    proved (fun _ h => by cases h) (by kernel_rfl) (fun _ h => by cases h) cpuCut_row_tie rfl ⟨rfl, rfl⟩ (by kernel_rfl) rfl
    (fun f fn hf hfn => by
      obtain rfl : f = 5 := Option.some.inj ((show Tryz.prog.funcNamed "arcade/arcadelaw3.CpuCut" = some 5 by kernel_rfl).symm.trans hf) |>.symm
      obtain rfl : fn = Tryz.f5 := (Option.some.inj (Tryz.func5.symm.trans hfn)).symm
      exact ⟨by kernel_rfl, fun j t ht => by
        rw [Tryz.params5] at ht
        have hm : t ∈ [32, 23, 24, 24] := by simpa using Array.mem_of_getElem? ht
        have hall : ([32, 23, 24, 24].all fun u => !Tryz.prog.wantsStandIn u) = true := by kernel_rfl
        exact (show Tryz.prog.wantsStandIn t = false by simpa using List.all_eq_true.1 hall t hm)⟩)
    (by kernel_rfl)
end Go.Proofs.YtlgfpddiebdmaaaGreatDoor.cpuCut
namespace Go.Proofs.YtlgfpddiebdmaaaGreatDoor
theorem cpuCut_card : Rows.CpuCutCardSaid := cpuCut.card
#print axioms cpuCut_card
end Go.Proofs.YtlgfpddiebdmaaaGreatDoor
