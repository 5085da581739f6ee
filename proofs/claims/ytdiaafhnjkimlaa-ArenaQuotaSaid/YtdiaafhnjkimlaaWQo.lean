/- ArenaQuota: the walk. -/
import Derived.Test.YtdiaafhnjkimlaaAsC
namespace Go.Proofs.Ytdiaafhnjkimlaa
open Go.RowKit
set_option linter.unusedVariables false
variable {W : World}
theorem wrapIn2 (n : Int) (h : -9223372036854775808 ≤ n ∧ n ≤ 9223372036854775807) : IntKind.i64.wrap n = n := by
  rw [IntKind.wrap_i64]
  omega
set_option maxRecDepth 100000 in
set_option maxHeartbeats 4000000 in
theorem quota_walk {z0 m0 q0 : Int} (hz : I64 z0) (hm : I64 m0) (hq : I64 q0) :
    Calls Try.prog 4 #[.int .i64 z0, .int .i64 m0, .int .i64 q0] W fun e w' => e = .returned (.bool true) ∧ Up W w' := by
  have HPz : Hid (∀ W, Calls Try.prog 11 #[.int .i64 z0, .int .i64 50] W fun e w' => e = .returned (.int .i64 (pickI z0 50)) ∧ w' = W) := fun W => pick_any z0 50 W hz (by decide) (by decide)
  have z1 := pickI_lo z0 50 (by decide)
  have z2 := pickI_hi z0 50 (by decide)
  have HPq : Hid (∀ W, Calls Try.prog 11 #[.int .i64 q0, .int .i64 400] W fun e w' => e = .returned (.int .i64 (pickI q0 400)) ∧ w' = W) := fun W => pick_any q0 400 W hq (by decide) (by decide)
  have q1 := pickI_lo q0 400 (by decide)
  have q2 := pickI_hi q0 400 (by decide)
  generalize pickI q0 400 = QI at *
  generalize pickI z0 50 = ZI at *
  obtain ⟨m, rfl⟩ := Int.eq_ofNat_of_zero_le z1
  obtain ⟨q, rfl⟩ := Int.eq_ofNat_of_zero_le q1
  obtain ⟨n, hn⟩ : ∃ n, n = 1 + m := ⟨_, rfl⟩
  have hn1 : 1 ≤ n := by omega
  have hn2 : n ≤ 50 := by omega
  have en : (1 : Int) + (m : Int) = (n : Int) := by omega
  have HPm : Hid (∀ W, Calls Try.prog 11 #[.int .i64 m0, .int .i64 (n : Int)] W fun e w' => e = .returned (.int .i64 (pickI m0 (n : Int))) ∧ w' = W) := fun W => pick_any m0 _ W hm (by omega) (by omega)
  have a1 := pickI_lo m0 (n : Int) (by omega)
  have a2 := pickI_hi m0 (n : Int) (by omega)
  generalize pickI m0 (n : Int) = MI at *
  obtain ⟨D, hD⟩ : ∃ D, D = q / n := ⟨_, rfl⟩
  have hd1 : D * n ≤ q := by rw [hD]; exact Nat.div_mul_le_self q n
  have hd2 : q < D * n + n := by
    have := Nat.lt_div_mul_add (a := q) (b := n) (by omega)
    rw [← hD] at this
    omega
  have hd3 : D ≤ 399 := by
    have : D * 1 ≤ D * n := Nat.mul_le_mul_left _ hn1
    omega
  have ed : (q : Int).tdiv (n : Int) = (D : Int) := by
    rw [hD, Int.tdiv_eq_ediv_of_nonneg (by omega)]
    exact (Int.natCast_ediv q n).symm
  obtain ⟨DN, hDN⟩ : ∃ DN, DN = D * n := ⟨_, rfl⟩
  have em : (D : Int) * (n : Int) = (DN : Int) := by rw [hDN]; exact (Int.natCast_mul D n).symm
  have hM : Hid (I64 m0) := hm
  have HR : Hid (D * n ≤ q ∧ q < D * n + n ∧ D * n = DN) := ⟨hd1, hd2, hDN.symm⟩
  have hdn : DN ≤ 399 := by omega
  have n0 : ¬ (n : Int) = 0 := by omega
  have n0b : ((n : Int) == 0) = false := beq_eq_false_iff_ne.2 n0
  have e1 : IntKind.i64.wrap (1 + MI) = 1 + MI := wrapIn2 _ (by omega)
  have HC : Hid (Cfg [(n, 500)] 2) := by
    refine ⟨by show 1 ≤ 1; decide, by show 1 ≤ 8; decide, by decide, by decide, fun k x hx => ?_, by show n * 500 + 0 ≤ _; omega⟩
    match k, hx with
    | 0, hx => simp at hx; subst hx; exact ⟨by show 0 < n; omega, by show n ≤ _; omega, by show 500 ≤ 512; decide⟩
    | k + 1, hx => simp at hx
  clear hn hz hm hq hd1 hd2 hD hDN
  go_enter Try.func4, Try.ntmps4
  go_wp2_with fail
  refine (HPz.out _).mono ?_
  rintro e w' ⟨rfl, hw'⟩
  obtain rfl := hw'.symm
  clear HPz
  go_wp2_with fail
  refine (HPq.out _).mono ?_
  rintro e w' ⟨rfl, hw'⟩
  obtain rfl := hw'.symm
  clear HPq
  go_wp2_with fail
  have ua : Up W (W.alloc (Obj.cells #[.int .i64 (n : Int), .int .i64 500] 29)) := (Up.refl W).alloc _
  have ka : (W.alloc (Obj.cells #[.int .i64 (n : Int), .int .i64 500] 29)).heap[W.heap.size]? = some (.cells #[.int .i64 (n : Int), .int .i64 500] 29 (0, 0)) := heap_alloc_new W _
  have HNew : Hid _ := new_ok (K := fun b => b < (W.alloc (Obj.cells #[.int .i64 (n : Int), .int .i64 500] 29)).heap.size) (g := W.heap.size) (o := 0) (cap := 1) HC.out (Nat.le_refl _) (by decide) (fun w u k x hx => by
    match k, hx with
    | 0, hx =>
      simp at hx
      subst hx
      have hb := (u.block _ (heap_at ka)).trans ka
      exact range2 (heap_cell hb rfl) (heap_cell hb rfl)
    | k + 1, hx => simp at hx) (fun b hb => hb)
  have HUa : Hid (Up W (W.alloc (Obj.cells #[.int .i64 (n : Int), .int .i64 500] 29))) := ua
  clear ua ka
  generalize World.alloc W _ = Wa at HNew HUa ⊢
  generalize W.heap.size = cb at HNew ⊢
  refine Calls.mono HNew.out ?_
  rintro e w2 ⟨pb, rfl, hpb, hP, uu2⟩
  have H2 : Hid (Pb W (fun b => b < Wa.heap.size) pb (Pl.new [(n, 500)] 2) w2) := ⟨hP, Ok.new HC.out, HUa.out.trans uu2, fun b hb => Nat.lt_of_lt_of_le hb HUa.out.size⟩
  clear hP uu2 HNew hpb HC HUa
  go_wp2_with fail
  refine (Qs.new hn1 hn2 (by omega) (by omega) H2.out).mono ?_
  rintro e w3 ⟨rfl, h3⟩
  generalize (fun b => b < Wa.heap.size) = K at h3
  have H3 : Hid (Qs W K pb n (q : Int) [] w3) := h3
  clear h3 H2
  go_wp2_with fail
  go_loopw [10, 13] (fun _ I wr => ∃ k : Nat, k ≤ D ∧ I = .int .i64 k ∧ Hid (∃ ls, ls.length = k ∧ Qs W K pb n (q : Int) ls wr)) (fun _ I _ => D - (intOf I).toNat)
  case atStart => exact ⟨0, Nat.zero_le _, rfl, ⟨[], rfl, H3.out⟩⟩
  case round =>
    clear H3
    obtain ⟨k, hk, rfl, M0⟩ := hrel
    obtain ⟨ls, hls, hqs⟩ := M0.out
    have HQ : Hid (Qs W K pb n (q : Int) ls wr) := hqs
    have HLn : Hid (ls.length = k) := hls
    clear M0 hqs hls
    by_cases hlt : k < D
    · have d1 : (k : Int) < (D : Int) := by omega
      have HTk : Hid _ := HQ.out.take (size := 1 + MI) (pk := (k : Int)) (by omega) (by omega) hn2 (by omega) (by omega) ⟨by omega, by omega⟩ (by have := HLn.out; omega) (by
        rw [HLn.out]
        have h5 : (k + 1) * n ≤ D * n := Nat.mul_le_mul_right _ hlt
        rw [Nat.add_mul, Nat.one_mul] at h5
        have := HR.out.1
        omega)
      clear HQ
      go_wp2_with fail
      refine (HPm.out _).mono ?_
      rintro e w' ⟨rfl, hw'⟩
      obtain rfl := hw'.symm
      go_wp2_with fail
      refine Calls.mono HTk.out ?_
      rintro e w4 ⟨b4, l4, rfl, h4⟩
      have H4 : Hid (∃ ls, ls.length = k + 1 ∧ Qs W K pb n (q : Int) ls w4) := ⟨_, by rw [List.length_append, HLn.out]; rfl, h4⟩
      clear h4 HTk HLn
      go_wp2_with fail
      refine ⟨⟨k + 1, by omega, by first | rfl | (simp; done), H4⟩, ?_⟩
      simp [intOf]
      try omega
    · have d1 : ¬ (k : Int) < (D : Int) := by omega
      obtain rfl : k = D := by omega
      have HRf : Hid (∀ (ls : List Loan) w (size pk : Int), ls.length = k → Qs W K pb n (q : Int) ls w → 1 ≤ size → size ≤ (n : Int) → I64 pk → _) := fun ls w size pk hl hq h1 h2 hp => hq.refuse (by omega) (by omega) hn2 h1 h2 hp (by rw [hl]; have := HR.out.2.1; omega)
      go_wp2_with fail
      refine (HRf.out ls _ 1 0 HLn.out HQ.out (by decide) (by omega) ⟨by decide, by decide⟩).mono ?_
      rintro e w4 ⟨rfl, h4⟩
      have H4 : Hid (Qs W K pb n (q : Int) ls w4) := h4
      clear h4 HQ
      have HUs : Hid _ := H4.out.used
      rw [HLn.out, HR.out.2.2] at HUs
      go_wp2_with fail
      refine Calls.mono HUs.out ?_
      rintro e w5 ⟨rfl, h5⟩
      have H5 : Hid (Qs W K pb n (q : Int) ls w5) := h5
      clear h5 H4 HUs
      have HLs : Hid _ := H5.out.leases
      rw [HLn.out] at HLs
      go_wp2_with fail
      refine Calls.mono HLs.out ?_
      rintro e w6 ⟨va, vc, rfl, v1, v2, h6, f6⟩
      have H6 : Hid (Qs W K pb n (q : Int) ls w6 ∧ ∀ l r, ls = l :: r → ∃ g, va = some ⟨g, 0, none⟩ ∧ w6.cell? ⟨g, 0, none⟩ = some (.int .i64 (l.buf : Int))) := ⟨h6, f6⟩
      clear h6 f6 H5 HLs
      by_cases hk0 : k = 0
      · have c0 : ((k : Int) == 0) = true := by simp [hk0]
        have HE : Hid (Up W w6) := H6.out.1.up
        clear H6 HRf HPm HLn hlt hk0
        go_wp2_with fail
        go_ret
        exact ⟨by first | rfl | (simp; done), HE.out⟩
      · have c0 : ((k : Int) == 0) = false := beq_eq_false_iff_ne.2 (by omega)
        have c1 : (0 : Int) < (k : Int) := by omega
        obtain ⟨l, r, hlr⟩ : ∃ l r, ls = l :: r := by
          cases ls with
          | nil => exact absurd HLn.out.symm hk0
          | cons l r => exact ⟨l, r, rfl⟩
        obtain ⟨g, rfl, kc⟩ := H6.out.2 l r hlr
        have H7 : Hid (Qs W K pb n (q : Int) (l :: r) w6) := hlr ▸ H6.out.1
        have HLr : Hid (r.length + 1 = k) := by
          have := HLn.out
          rw [hlr] at this
          exact this
        have HG : Hid _ := H7.out.give
        clear H6 hlr
        go_wp2_with fail
        refine Calls.mono HG.out ?_
        rintro e w8 ⟨rfl, h8⟩
        have H8 : Hid (Qs W K pb n (q : Int) r w8) := h8
        clear h8 HG H7 kc
        have HT9 : Hid _ := H8.out.take (size := (n : Int)) (pk := m0) (by omega) (by omega) hn2 (by omega) (by omega) hM.out (by have := HLr.out; omega) (by
          have h5 : (r.length + 1) * n = k * n := by rw [HLr.out]
          rw [Nat.add_mul, Nat.one_mul] at h5
          have := HR.out.1
          omega)
        go_wp2_with fail
        refine Calls.mono HT9.out ?_
        rintro e w9 ⟨b9, l9, rfl, h9⟩
        have H9 : Hid (Qs W K pb n (q : Int) (r ++ [l9]) w9 ∧ (r ++ [l9]).length = k) := ⟨h9, by rw [List.length_append]; exact HLr.out⟩
        clear h9 HT9 H8
        go_wp2_with fail
        refine (HRf.out _ _ (n : Int) m0 H9.out.2 H9.out.1 (by omega) (by omega) hM.out).mono ?_
        rintro e w10 ⟨rfl, h10⟩
        have HE : Hid (Up W w10 ∧ ∀ o, Up W (w10.alloc o)) := ⟨h10.up, fun o => h10.up.alloc o⟩
        clear h10 H9 HRf
        go_wp2_with fail
        go_ret
        exact ⟨by first | rfl | (simp; done), HE.out.2 _⟩
end Go.Proofs.Ytdiaafhnjkimlaa
