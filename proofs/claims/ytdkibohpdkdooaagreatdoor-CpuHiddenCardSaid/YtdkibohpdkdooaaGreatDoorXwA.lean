import Derived.Test.YtdkibohpdkdooaaGreatDoorLq
import Derived.Test.YtdkibohpdkdooaaGreatDoorCq
import Derived.Laws.CopyOwn
import Derived.Deep.OwnRows
import Derived.OwnWalk
import Derived.Laws.AppendOwn
import Derived.Maps.AppendAt
import Derived.Laws.BytesArg
import Derived.ArgAppend
import Derived.Deep.Onto
import Derived.Deep.MidRow
import Derived.StillTailTactics
import Derived.BigQuiet
/- CpuHidden, plainly: instructions of one byte, a dispatch and a RETI with any lines. No condition. -/
namespace Go.Proofs.YtdkibohpdkdooaaGreatDoor
open Go.RowKit
set_option linter.unusedVariables false
def l32 : List Int := [4, 5, 12, 13, 20, 21, 28, 29, 60, 61, 7, 15, 23, 31, 39, 47, 55, 63, 3, 19, 35, 11, 27, 43, 9, 25, 41, 120, 71, 74, 83, 96]
/-- an instruction of one byte that does nothing but with registers -/
def Pl (c : Int) : Prop := (∃ y z : Nat, y < 8 ∧ z < 8 ∧ z ≠ 6 ∧ c = 128 + 8 * (y : Int) + z) ∨ c ∈ l32
def stp (c : Int) (r : Nat → Int) : Nat → Int := (doP (codeRow c).d (mid r 60000 0 true c 0 zf 0)).r
def isOne (c : Int) : Bool := (codeRow c).a0 == 0
variable {r : Nat → Int} {sp pc : Int} {ime : Bool} {l d : Int}
def nx (r : Nat → Int) (sp pc : Int) (ime : Bool) (l : Int) : St := (bd r sp (pc1 pc) ime).look (l % 32)
set_option maxRecDepth 100000 in
theorem pl_one (c : Int) (h : Pl c) : (isOne c = true ∧ (bd r sp pc ime).tick c l = (nx (stp c r) sp pc ime l, 0)) ∨ (isOne c = false ∧ (bd r sp pc ime).tick c l = (mid r sp pc ime c 0 zf 0, 0) ∧ (mid r sp pc ime c 0 zf 0).next = 1 ∧ (mid r sp pc ime c 0 zf 0).tick d l = (nx (stp c r) sp pc ime l, 0)) := by
  rcases h with ⟨y, z, hy, hz, hz6, rfl⟩ | h
  · left
    rcases c8 hy with rfl | rfl | rfl | rfl | rfl | rfl | rfl | rfl <;> rcases c8 hz with rfl | rfl | rfl | rfl | rfl | rfl | rfl | rfl
    all_goals first | exact absurd rfl hz6 | exact ⟨by decide, by kernel_rfl⟩
  · simp only [l32, List.mem_cons, List.not_mem_nil, or_false] at h
    rcases h with rfl | rfl | rfl | rfl | rfl | rfl | rfl | rfl | rfl | rfl | rfl | rfl | rfl | rfl | rfl | rfl | rfl | rfl | rfl | rfl | rfl | rfl | rfl | rfl | rfl | rfl | rfl | rfl | rfl | rfl | rfl | rfl
    all_goals first | exact Or.inl ⟨by decide, by kernel_rfl⟩ | exact Or.inr ⟨by decide, by kernel_rfl, by kernel_rfl, by kernel_rfl⟩
/-- in the midst of a dispatch -/
def dsp (r : Nat → Int) (sp pc : Int) (ime : Bool) (done asked : Int) : St := { r := r, sp := sp, pc := pc, ime := ime, state := 0, due := false, twice := false, phase := 2, code := 0, done := done, rd := zf, many := 0, asked := asked }
theorem look_t : (bd r sp pc true).look l = if l = 0 then bd r sp pc true else dsp r sp pc true 0 0 := by
  unfold St.look
  by_cases h : l = 0
  · rw [if_pos (Or.inl h), if_pos h]
  · rw [if_neg (by intro e; rcases e with e | e; exact h e; exact absurd (show (0 : Int) = 3 from e) (by decide)), if_neg h]; rfl
theorem look_f : (bd r sp pc false).look l = bd r sp pc false := by
  unfold St.look
  split <;> rfl
set_option maxRecDepth 100000 in
theorem dsp0 : (dsp r sp pc ime 0 0).tick d l = (dsp r sp pc ime 1 0, 0) := by kernel_rfl
set_option maxRecDepth 100000 in
theorem dsp1 : (dsp r sp pc ime 1 0).tick d l = (dsp r sp pc ime 2 0, 0) := by kernel_rfl
set_option maxRecDepth 100000 in
theorem dsp2 : (dsp r sp pc ime 2 0).tick d l = (dsp r sp pc ime 3 0, 0) := by kernel_rfl
set_option maxRecDepth 100000 in
theorem dsp3 : (dsp r sp pc ime 3 0).tick d l = (dsp r sp pc ime 4 (lowBit (l % 32)), 0) := by kernel_rfl
set_option maxRecDepth 100000 in
theorem dsp4 (a : Int) : (dsp r sp pc ime 4 a).tick d l = (bd r ((sp - 2) % 65536) (handP a) false, a) := by kernel_rfl
theorem dsn0 : (dsp r sp pc ime 0 0).next = 1 := by kernel_rfl
theorem dsn1 : (dsp r sp pc ime 1 0).next = 1 := by kernel_rfl
theorem dsn2 : (dsp r sp pc ime 2 0).next = 26 := by kernel_rfl
theorem dsn3 : (dsp r sp pc ime 3 0).next = 28 := by kernel_rfl
theorem dsn4 (a : Int) : (dsp r sp pc ime 4 a).next = 1 := by kernel_rfl
/-- RETI -/
def ri (r : Nat → Int) (sp pc : Int) (ime : Bool) (j : Int) (rd : Nat → Int) : St := mid r sp pc ime 217 j rd j
set_option maxRecDepth 100000 in
theorem ri0 : (bd r sp pc ime).tick 217 l = (ri r sp pc ime 0 zf, 0) := by kernel_rfl
set_option maxRecDepth 100000 in
theorem ri1 : (ri r sp pc ime 0 zf).tick d l = (ri r sp pc ime 1 (upd zf 0 (d % 256)), 0) := by kernel_rfl
set_option maxRecDepth 100000 in
theorem ri2 (x : Int) : (ri r sp pc ime 1 (upd zf 0 x)).tick d l = (ri r sp pc ime 2 (upd (upd zf 0 x) 1 (d % 256)), 0) := by kernel_rfl
set_option maxRecDepth 100000 in
theorem ri3 (x y : Int) : (ri r sp pc ime 2 (upd (upd zf 0 x) 1 y)).tick d l = ((bd r ((sp + 2) % 65536) (wordP y x) true).look (l % 32), 0) := by kernel_rfl
theorem rin0 : (ri r sp pc ime 0 zf).next = 10 := by kernel_rfl
theorem rin1 (x : Int) : (ri r sp pc ime 1 (upd zf 0 x)).next = 11 := by kernel_rfl
theorem rin2 (x y : Int) : (ri r sp pc ime 2 (upd (upd zf 0 x) 1 y)).next = 1 := by kernel_rfl
set_option maxRecDepth 100000 in
theorem nop : (bd r sp pc ime).tick 0 l = (nx r sp pc ime l, 0) := by kernel_rfl
theorem bdn : (bd r sp pc ime).next = 2 := by kernel_rfl
theorem low_in (x : Int) : lowBit x = 0 ∨ lowBit x = 1 ∨ lowBit x = 2 ∨ lowBit x = 4 ∨ lowBit x = 8 ∨ lowBit x = 16 := by
  unfold lowBit
  repeat' split
  all_goals simp
end Go.Proofs.YtdkibohpdkdooaaGreatDoor
/- CpuHidden, plainly: where the processor with interrupts may be, and one cycle of it. No condition. -/
namespace Go.Proofs.YtdkibohpdkdooaaGreatDoor
open Go.RowKit
set_option linter.unusedVariables false
structure Code (n : Nat) (c : Nat → Int) (f : Nat → Int) : Prop where
  at_ : ∀ i, i < n → f (512 + i) = c i
  nul : ∀ k, k < 64 → f k = 0
  ret : ∀ m, m < 5 → f (64 + 8 * m) = 217
theorem Code.upd {n : Nat} {c f : Nat → Int} (h : Code n c f) (hn : n ≤ 60) (j : Nat) (hj : 1000 ≤ j) (v : Int) : Code n c (upd f j v) := by
  refine ⟨fun i hi => ?_, fun k hk => ?_, fun m hm => ?_⟩
  · unfold Go.Proofs.YtdkibohpdkdooaaGreatDoor.upd; rw [if_neg (by omega)]; exact h.at_ i hi
  · unfold Go.Proofs.YtdkibohpdkdooaaGreatDoor.upd; rw [if_neg (by omega)]; exact h.nul k hk
  · unfold Go.Proofs.YtdkibohpdkdooaaGreatDoor.upd; rw [if_neg (by omega)]; exact h.ret m hm
/-- registers behind i instructions -/
def rgs (c : Nat → Int) (r : Nat → Int) : Nat → Nat → Int
  | 0 => r
  | i + 1 => stp (c i) (rgs c r i)
def pcI (i : Nat) : Int := 512 + i
theorem pcI_1 (i : Nat) (h : i ≤ 60) : pc1 (pcI i) = pcI (i + 1) := by unfold pc1 pcI; omega
theorem pcI_n (i : Nat) : (pcI i).toNat = 512 + i := by unfold pcI; omega
def Bck (f : Nat → Int) (i : Nat) : Prop := f 59998 = pcI i % 256 ∧ f 59999 = pcI i / 256
inductive At (n : Nat) (c : Nat → Int) (R : Nat → Nat → Int) (f : Nat → Int) : St → Nat → Prop
  | a (i : Nat) (hi : i ≤ n) : At n c R f (bd (R i) 60000 (pcI i) true) (2 * (n - i))
  | m (i : Nat) (hi : i < n) (h1 : isOne (c i) = false) : At n c R f (mid (R i) 60000 (pcI i) true (c i) 0 zf 0) (2 * (n - i) - 1)
  | d0 (i : Nat) (hi : i ≤ n) : At n c R f (dsp (R i) 60000 (pcI i) true 0 0) (2 * (n - i) + 73)
  | d1 (i : Nat) (hi : i ≤ n) : At n c R f (dsp (R i) 60000 (pcI i) true 1 0) (2 * (n - i) + 72)
  | d2 (i : Nat) (hi : i ≤ n) : At n c R f (dsp (R i) 60000 (pcI i) true 2 0) (2 * (n - i) + 71)
  | d3 (i : Nat) (hi : i ≤ n) (h : f 59999 = pcI i / 256) : At n c R f (dsp (R i) 60000 (pcI i) true 3 0) (2 * (n - i) + 70)
  | d4 (i : Nat) (hi : i ≤ n) (h : Bck f i) (x : Int) : At n c R f (dsp (R i) 60000 (pcI i) true 4 (lowBit x)) (2 * (n - i) + 69)
  | nn (i : Nat) (hi : i ≤ n) (h : Bck f i) (k : Nat) (hk : k < 64) : At n c R f (bd (R i) 59998 k false) (2 * (n - i) + (68 - k))
  | h0 (i : Nat) (hi : i ≤ n) (h : Bck f i) (m : Nat) (hm : m < 5) : At n c R f (bd (R i) 59998 (64 + 8 * m : Nat) false) (2 * (n - i) + 4)
  | h1 (i : Nat) (hi : i ≤ n) (h : Bck f i) (p : Int) : At n c R f (ri (R i) 59998 p false 0 zf) (2 * (n - i) + 3)
  | h2 (i : Nat) (hi : i ≤ n) (h : Bck f i) (p : Int) : At n c R f (ri (R i) 59998 p false 1 (upd zf 0 (pcI i % 256))) (2 * (n - i) + 2)
  | h3 (i : Nat) (hi : i ≤ n) (h : Bck f i) (p : Int) : At n c R f (ri (R i) 59998 p false 2 (upd (upd zf 0 (pcI i % 256)) 1 (pcI i / 256))) (2 * (n - i) + 1)
variable {n : Nat} {c : Nat → Int} {R : Nat → Nat → Int} {f : Nat → Int} {s : St} {k : Nat}
theorem At.low (h : At n c R f s k) (hn : n ≤ 60) : k ≤ 193 := by cases h <;> omega
/-- the end: where the loop stops -/
theorem At.fin (h : At n c R f s k) (hn : n ≤ 60) (h0 : s.phase = 0) (h1 : s.pc = pcI n) (h2 : s.sp = 60000) : s = bd (R n) 60000 (pcI n) true := by
  cases h
  case a i hi =>
    have : i = n := by
      have e : pcI i = pcI n := h1
      unfold pcI at e; omega
    subst this; rfl
  case m => exact absurd (show (1 : Int) = 0 from h0) (by decide)
  case d0 => exact absurd (show (2 : Int) = 0 from h0) (by decide)
  case d1 => exact absurd (show (2 : Int) = 0 from h0) (by decide)
  case d2 => exact absurd (show (2 : Int) = 0 from h0) (by decide)
  case d3 => exact absurd (show (2 : Int) = 0 from h0) (by decide)
  case d4 => exact absurd (show (2 : Int) = 0 from h0) (by decide)
  case nn => exact absurd (show (59998 : Int) = 60000 from h2) (by decide)
  case h0 => exact absurd (show (59998 : Int) = 60000 from h2) (by decide)
  case h1 => exact absurd (show (1 : Int) = 0 from h0) (by decide)
  case h2 => exact absurd (show (1 : Int) = 0 from h0) (by decide)
  case h3 => exact absurd (show (1 : Int) = 0 from h0) (by decide)
/-- behind a boundary with interrupts let -/
theorem At.behind (i : Nat) (hi : i ≤ n) (l : Int) : ∃ k', At n c R f ((bd (R i) 60000 (pcI i) true).look l) k' ∧ (l = 0 → k' = 2 * (n - i)) := by
  rw [look_t]
  by_cases h : l = 0
  · rw [if_pos h]; exact ⟨_, .a i hi, fun _ => rfl⟩
  · rw [if_neg h]; exact ⟨_, .d0 i hi, fun e => absurd e h⟩
/-- what a dispatch must have done -/
structure Tk (n : Nat) (s : St) (f : Nat → Int) (a : Int) : Prop where
  ime : s.ime = false
  sp : s.sp = 59998
  b0 : 512 ≤ f 59998 + 256 * f 59999
  b1 : f 59998 + 256 * f 59999 ≤ 512 + n
  pc : ∃ m : Nat, m < 5 ∧ s.pc = 64 + 8 * (m : Int) ∧ a = (2 ^ m : Nat)
structure Nxt (n : Nat) (c : Nat → Int) (R : Nat → Nat → Int) (k : Nat) (l : Int) (s' : St) (a : Int) (f' : Nat → Int) : Prop where
  at_ : ∃ k', At n c R f' s' k' ∧ (l % 32 = 0 → k' + 1 ≤ k)
  code : Code n c f'
  tk : a ≠ 0 → Tk n s' f' a
theorem nxt_of {l : Int} {s' : St} {a d : Int} {f' : Nat → Int} (hd : s.rdV f = d) (ht : s.tick d l = (s', a)) (hw : s.wrM f = f') (h : Nxt n c R k l s' a f') : Nxt n c R k l (s.tick (s.rdV f) l).1 (s.tick (s.rdV f) l).2 (s.wrM f) := by
  rw [hd, ht, hw]; exact h
theorem rdV_no {s : St} {q : Nat} (h : s.next = q) (hq : wantsK q ≠ 1) (f : Nat → Int) : s.rdV f = 0 := by unfold St.rdV; rw [h, if_neg hq]
theorem rdV_at {s : St} {q : Nat} (h : s.next = q) (hq : wantsK q = 1) (f : Nat → Int) : s.rdV f = f (s.at q).toNat := by unfold St.rdV; rw [h, if_pos hq]
theorem wrM_no {s : St} {q : Nat} (h : s.next = q) (hq : wantsK q ≠ 2) (f : Nat → Int) : s.wrM f = f := by unfold St.wrM; rw [h, if_neg hq]
theorem wrM_at {s : St} {q : Nat} (h : s.next = q) (hq : wantsK q = 2) (f : Nat → Int) : s.wrM f = upd f (s.at q).toNat (s.data q) := by unfold St.wrM; rw [h, if_pos hq]
theorem ne1 {q : Nat} (h : q ≠ 0 ∧ q < 2) : wantsK q ≠ 1 := by unfold wantsK; rw [if_neg (by omega), if_neg (by omega)]; decide
theorem bd_at (r : Nat → Int) (sp pc : Int) (ime : Bool) : (bd r sp pc ime).at 2 = pc := by kernel_rfl
theorem ds_at26 (r : Nat → Int) (sp pc : Int) (ime : Bool) : (dsp r sp pc ime 2 0).at 26 = (sp - 1) % 65536 := by kernel_rfl
theorem ds_at28 (r : Nat → Int) (sp pc : Int) (ime : Bool) : (dsp r sp pc ime 3 0).at 28 = (sp - 2) % 65536 := by kernel_rfl
theorem ds_da26 (r : Nat → Int) (sp pc : Int) (ime : Bool) : (dsp r sp pc ime 2 0).data 26 = pc / 256 := by kernel_rfl
theorem ds_da28 (r : Nat → Int) (sp pc : Int) (ime : Bool) : (dsp r sp pc ime 3 0).data 28 = pc % 256 := by kernel_rfl
theorem ri_at10 (r : Nat → Int) (sp pc : Int) (ime : Bool) : (ri r sp pc ime 0 zf).at 10 = sp := by kernel_rfl
theorem ri_at11 (r : Nat → Int) (sp pc : Int) (ime : Bool) (x : Int) : (ri r sp pc ime 1 (upd zf 0 x)).at 11 = (sp + 1) % 65536 := by kernel_rfl
theorem at_step (h : At n c R f s k) (hC : Code n c f) (hn : n ≤ 60) (hP : ∀ i, i < n → Pl (c i)) (hR : ∀ i, i < n → R (i + 1) = stp (c i) (R i)) (l : Int)
    (hend : ¬ (s.phase = 0 ∧ s.pc = pcI n ∧ s.sp = 60000)) : Nxt n c R k l (s.tick (s.rdV f) l).1 (s.tick (s.rdV f) l).2 (s.wrM f) := by
  cases h
  case a i hi =>
    have hlt : i < n := by
      rcases Nat.lt_or_ge i n with e | e
      · exact e
      · exact absurd (by have : i = n := by omega
                         subst this; exact ⟨rfl, rfl, rfl⟩) hend
    have hd : (bd (R i) 60000 (pcI i) true).rdV f = c i := by
      rw [rdV_at bdn (by decide), bd_at, pcI_n]; exact hC.at_ i hlt
    have hw := wrM_no (bdn (r := R i) (sp := 60000) (pc := pcI i) (ime := true)) (by decide) f
    rcases pl_one (c i) (hP i hlt) (r := R i) (sp := 60000) (pc := pcI i) (ime := true) (l := l) (d := 0) with ⟨h1, h2⟩ | ⟨h1, h2, _⟩
    · refine nxt_of hd h2 hw ⟨?_, hC, fun e => absurd rfl e⟩
      unfold nx
      rw [pcI_1 i (by omega), ← hR i hlt]
      obtain ⟨k', h, e⟩ := At.behind (c := c) (R := R) (f := f) (i + 1) hlt (l % 32)
      exact ⟨k', h, fun h0 => by have := e h0; omega⟩
    · refine nxt_of hd h2 hw ⟨⟨_, .m i hlt h1, fun _ => by omega⟩, hC, fun e => absurd rfl e⟩
  case m i hi h1 =>
    rcases pl_one (c i) (hP i hi) (r := R i) (sp := 60000) (pc := pcI i) (ime := true) (l := l) (d := 0) with ⟨h3, _⟩ | ⟨_, _, h3, h2⟩
    · rw [h1] at h3; cases h3
    · refine nxt_of (rdV_no h3 (by decide) f) h2 (wrM_no h3 (by decide) f) ⟨?_, hC, fun e => absurd rfl e⟩
      unfold nx
      rw [pcI_1 i (by omega), ← hR i hi]
      obtain ⟨k', h, e⟩ := At.behind (c := c) (R := R) (f := f) (i + 1) hi (l % 32)
      exact ⟨k', h, fun h0 => by have := e h0; omega⟩
  case d0 i hi => exact nxt_of (rdV_no dsn0 (by decide) f) dsp0 (wrM_no dsn0 (by decide) f) ⟨⟨_, .d1 i hi, fun _ => by omega⟩, hC, fun e => absurd rfl e⟩
  case d1 i hi => exact nxt_of (rdV_no dsn1 (by decide) f) dsp1 (wrM_no dsn1 (by decide) f) ⟨⟨_, .d2 i hi, fun _ => by omega⟩, hC, fun e => absurd rfl e⟩
  case d2 i hi =>
    refine nxt_of (rdV_no dsn2 (by decide) f) dsp2 (Eq.trans (wrM_at dsn2 (by decide) f) (by rw [ds_at26, ds_da26]; rfl)) (f' := upd f 59999 (pcI i / 256)) ⟨⟨2 * (n - i) + 70, .d3 i hi rfl, fun _ => by omega⟩, hC.upd hn _ (by decide) _, fun e => absurd rfl e⟩
  case d3 i hi h =>
    refine nxt_of (rdV_no dsn3 (by decide) f) dsp3 (Eq.trans (wrM_at dsn3 (by decide) f) (by rw [ds_at28, ds_da28]; rfl)) (f' := upd f 59998 (pcI i % 256)) ⟨⟨2 * (n - i) + 69, At.d4 (f := upd f 59998 (pcI i % 256)) i hi ⟨rfl, h⟩ _, fun _ => by omega⟩, hC.upd hn _ (by decide) _, fun e => absurd rfl e⟩
  case d4 i hi h x =>
    refine nxt_of (rdV_no (dsn4 _) (by decide) f) (dsp4 _) (wrM_no (dsn4 _) (by decide) f) ⟨?_, hC, fun e => ?_⟩
    · rw [show ((60000 : Int) - 2) % 65536 = 59998 from rfl]
      rcases low_in x with e | e | e | e | e | e <;> rw [e]
      · exact ⟨_, .nn i hi h 0 (by omega), fun _ => by omega⟩
      · exact ⟨_, .h0 i hi h 0 (by omega), fun _ => by omega⟩
      · exact ⟨_, .h0 i hi h 1 (by omega), fun _ => by omega⟩
      · exact ⟨_, .h0 i hi h 2 (by omega), fun _ => by omega⟩
      · exact ⟨_, .h0 i hi h 3 (by omega), fun _ => by omega⟩
      · exact ⟨_, .h0 i hi h 4 (by omega), fun _ => by omega⟩
    · refine ⟨rfl, rfl, ?_, ?_, ?_⟩
      · rw [h.1, h.2]; unfold pcI; omega
      · rw [h.1, h.2]; unfold pcI; omega
      · rcases low_in x with e2 | e2 | e2 | e2 | e2 | e2
        · exact absurd e2 e
        all_goals rw [e2]
        · exact ⟨0, by decide, rfl, rfl⟩
        · exact ⟨1, by decide, rfl, rfl⟩
        · exact ⟨2, by decide, rfl, rfl⟩
        · exact ⟨3, by decide, rfl, rfl⟩
        · exact ⟨4, by decide, rfl, rfl⟩
  case nn i hi h k hk =>
    refine nxt_of (d := 0) (by rw [rdV_at bdn (by decide), bd_at]; exact hC.nul k hk) nop (wrM_no bdn (by decide) f) ⟨?_, hC, fun e => absurd rfl e⟩
    unfold nx
    rw [look_f, show pc1 (k : Int) = ((k + 1 : Nat) : Int) by unfold pc1; omega]
    rcases Nat.lt_or_ge (k + 1) 64 with e | e
    · exact ⟨_, .nn i hi h (k + 1) e, fun _ => by omega⟩
    · have : k = 63 := by omega
      subst this
      exact ⟨_, .h0 i hi h 0 (by omega), fun _ => by omega⟩
  case h0 i hi h m hm =>
    refine nxt_of (d := 217) (by rw [rdV_at bdn (by decide), bd_at]; exact hC.ret m hm) ri0 (wrM_no bdn (by decide) f) ⟨⟨_, .h1 i hi h _, fun _ => by omega⟩, hC, fun e => absurd rfl e⟩
  case h1 i hi h p =>
    refine nxt_of (d := pcI i % 256) (by rw [rdV_at rin0 (by decide), ri_at10]; exact h.1) ri1 (wrM_no rin0 (by decide) f) ⟨⟨2 * (n - i) + 2, ?_, fun _ => by omega⟩, hC, fun e => absurd rfl e⟩
    rw [show pcI i % 256 % 256 = pcI i % 256 by omega]
    exact .h2 i hi h p
  case h2 i hi h p =>
    refine nxt_of (d := pcI i / 256) (by rw [rdV_at (rin1 _) (by decide), ri_at11]; exact h.2) (ri2 _) (wrM_no (rin1 _) (by decide) f) ⟨⟨2 * (n - i) + 1, ?_, fun _ => by omega⟩, hC, fun e => absurd rfl e⟩
    rw [show pcI i / 256 % 256 = pcI i / 256 by unfold pcI; omega]
    exact .h3 i hi h p
  case h3 i hi h p =>
    refine nxt_of (rdV_no (rin2 _ _) (by decide) f) (ri3 _ _) (wrM_no (rin2 _ _) (by decide) f) ⟨?_, hC, fun e => absurd rfl e⟩
    rw [show ((59998 : Int) + 2) % 65536 = 60000 from rfl, show wordP (pcI i / 256) (pcI i % 256) = pcI i by unfold wordP; omega]
    obtain ⟨k', h, e⟩ := At.behind (c := c) (R := R) (f := f) i hi (l % 32)
    exact ⟨k', h, fun h0 => by have := e h0; omega⟩
/-- the other one: instruction by instruction -/
theorem pl_ins (hC : Code n c f) (hn : n ≤ 60) (hP : ∀ i, i < n → Pl (c i)) (hR : ∀ i, i < n → R (i + 1) = stp (c i) (R i)) (i : Nat) (hi : i < n) :
    Ins (bd (R i) 60000 (pcI i) true, f) (if isOne (c i) then 1 else 2) (bd (R (i + 1)) 60000 (pcI (i + 1)) true, f) := by
  have h0 : f (pcI i).toNat = c i := by rw [pcI_n]; exact hC.at_ i hi
  have hl : ∀ r sp pc ime, nx r sp pc ime 0 = bd r sp (pc1 pc) ime := fun r sp pc ime => rfl
  rw [hR i hi, ← pcI_1 i (by omega)]
  rcases pl_one (c i) (hP i hi) (r := R i) (sp := 60000) (pc := pcI i) (ime := true) (l := 0) (d := 0) with ⟨h1, h2⟩ | ⟨h1, h2, h3, h4⟩
  · rw [h1, if_pos rfl]
    refine ins1 (cyc_step (x := c i) (f' := f) ?_ (by rw [h2, hl]) (wrM_no bdn (by decide) f)) rfl
    rw [rdV_at bdn (by decide), bd_at]; exact h0
  · rw [h1, if_neg (by decide)]
    refine ins2 (fetch h0 (by rw [h2])) (cyc_step (x := 0) (f' := f) (rdV_no h3 (by decide) f) (by rw [h4, hl]) (wrM_no h3 (by decide) f)) rfl rfl
end Go.Proofs.YtdkibohpdkdooaaGreatDoor
/- Bytes in memory: blocks, lists, copies, rows of one's own. No condition. -/
namespace Go.Proofs.YtdkibohpdkdooaaGreatDoor
open Go.RowKit
set_option linter.unusedVariables false
theorem Fr.cell {b : Nat} {w w' : World} (h : Fr b w w') {g k : Nat} (hg : g < w.heap.size) (hb : g ≠ b) : w'.cell? ⟨g, k, none⟩ = w.cell? ⟨g, k, none⟩ := by
  unfold World.cell?
  rw [show (w'.heap[(⟨g, k, none⟩ : Addr).block]?) = w.heap[(⟨g, k, none⟩ : Addr).block]? from h.block _ hg hb]
theorem still_of_quiet {P : Program} {ops : Array Oper} {w0 : World} {Q : Act → Prop} : ∀ (l : List Oper) (a : Act), wpQuiet P ops (fun w' => w' = w0) Q l a → wpStill P ops w0 Q l a
  | [], a, h => h
  | o :: rest, a, h => by
    unfold wpQuiet at h
    unfold wpStill
    split
    · rename_i hw
      rw [if_pos hw] at h
      obtain ⟨v, h1, h2⟩ := h
      have h3 := h1 w0 rfl
      have h4 := still_of_quiet rest _ h2
      unfold Oper.quietAt at h3
      unfold Oper.still
      generalize (execOp a.eval o).run P w0 = r at *
      cases r with
      | ok n w' =>
        cases n <;> simp only [Oper.quietUpon] at h3 <;> simp only [Oper.stillUpon]
        case value u =>
          obtain ⟨e1, e2⟩ := h3
          subst e2
          exact ⟨e1, h4⟩
        case skip =>
          obtain ⟨e1, e2⟩ := h3
          subst e2
          exact ⟨e1, h4⟩
        case enter f args =>
          exact ⟨h3.1, v, h3.2, h4⟩
      | _ => simp only [Oper.quietUpon] at h3
    · rename_i hw
      rw [if_neg hw] at h
      exact still_of_quiet rest _ h
theorem wp_still2 {P : Program} {id : Nat} {Q : Exit → Act → World → Prop} {a : Act} {w : World} {l : List Oper} (n : Nat) (hm : P.follows .mixedOrders = true) (hB : Region.lexTailB .any l.toArray n = true)
    (h : ∀ w1, w1 = w.drew → wpQuiet P l.toArray (fun w' => w' = w1) (fun a' => wpList P l.toArray Q (l.drop n) a' w1) (l.take n) a) : (Code.region id l.toArray true).wp P Q a w :=
  wp_region_still_tail n hm hB (still_of_quiet _ _ (h w.drew rfl))
/-- a block of n bytes -/
structure NmAt (w : World) (g n : Nat) (f : Nat → Int) : Prop where
  row : ∃ cs ty, w.heap[g]? = some (.cells cs ty (0, 0)) ∧ cs.size = n ∧ ∀ k, k < n → cs[k]? = some (.int .u8 (f k))
theorem NmAt.lt {w : World} {g n : Nat} {f : Nat → Int} (h : NmAt w g n f) : g < w.heap.size := by
  obtain ⟨cs, ty, h1, _⟩ := h.row
  exact (Array.getElem?_eq_some_iff.1 h1).1
theorem NmAt.cell {w : World} {g n : Nat} {f : Nat → Int} (h : NmAt w g n f) (k : Nat) (hk : k < n) : w.cell? ⟨g, k, none⟩ = some (.int .u8 (f k)) := by
  obtain ⟨cs, ty, h1, h2, h3⟩ := h.row
  rw [cell_of_row _ _ _ _ _ _ h1]
  exact h3 k hk
theorem NmAt.fz {w : World} {g n : Nat} {f : Nat → Int} (h : NmAt w g n f) (k : Nat) : w.frozen? ⟨g, k, none⟩ = false := by
  obtain ⟨cs, ty, h1, _⟩ := h.row
  simp [World.frozen?, h1]
theorem NmAt.of_block {w w' : World} {g n : Nat} {f : Nat → Int} (h : NmAt w g n f) (e : w'.heap[g]? = w.heap[g]?) : NmAt w' g n f := by
  obtain ⟨cs, ty, h1, h2⟩ := h.row
  exact ⟨cs, ty, e.trans h1, h2⟩
theorem NmAt.congr {w : World} {g n : Nat} {f f' : Nat → Int} (h : NmAt w g n f) (e : ∀ k, k < n → f k = f' k) : NmAt w g n f' := by
  obtain ⟨cs, ty, h1, h2, h3⟩ := h.row
  exact ⟨cs, ty, h1, h2, fun k hk => by rw [← e k hk]; exact h3 k hk⟩
theorem NmAt.set {w : World} {g n : Nat} {f : Nat → Int} (h : NmAt w g n f) (i : Nat) (hi : i < n) (x : Int) : NmAt (w.setCell ⟨g, i, none⟩ (.int .u8 x)) g n (fun k => if k = i then x else f k) := by
  obtain ⟨cs, ty, h1, h2, h3⟩ := h.row
  refine ⟨cs.setIfInBounds i (.int .u8 x), ty, heap_setCell_same w g i _ _ _ h1, by simp [h2], fun j hj => ?_⟩
  rw [Array.getElem?_setIfInBounds]
  by_cases e : j = i
  · subst e
    rw [if_pos rfl, if_pos (by omega), if_pos rfl]
  · rw [if_neg (fun e' => e e'.symm), if_neg e]
    exact h3 j hj
structure Byts (W : World) (aa : Option Addr) (ab ao len cap : Nat) (f : Nat → Int) : Prop where
  lc : len ≤ cap
  cm : cap ≤ maxLen
  ad : 0 < len → aa = some ⟨ab, ao, none⟩
  u8 : ∀ k, 0 ≤ f k ∧ f k ≤ 255
  cell : ∀ k, k < len → W.cell? ⟨ab, ao + k, none⟩ = some (.int .u8 (f k))
/-- all blocks of K as they were -/
structure FK (K : Nat → Prop) (w w' : World) : Prop where
  os : w'.os = w.os
  output : w'.output = w.output
  size : w.heap.size ≤ w'.heap.size
  block : ∀ b, b < w.heap.size → K b → w'.heap[b]? = w.heap[b]?
theorem FK.trans {K : Nat → Prop} {x y z : World} (h : FK K x y) (k : FK K y z) : FK K x z :=
  ⟨k.os.trans h.os, k.output.trans h.output, Nat.le_trans h.size k.size, fun b hb hk => (k.block b (Nat.lt_of_lt_of_le hb h.size) hk).trans (h.block b hb hk)⟩
theorem FK.ofUp {K : Nat → Prop} {x y : World} (h : Up x y) : FK K x y := ⟨h.os, h.output, h.size, fun b hb _ => h.block b hb⟩
theorem FK.ofFr {K : Nat → Prop} {x y : World} {c : Nat} (h : Fr c x y) (hc : ¬ K c) : FK K x y := ⟨h.os, h.output, h.size, fun b hb hk => h.block b hb (fun e => hc (e ▸ hk))⟩
theorem FK.mono {K K' : Nat → Prop} {x y : World} (h : FK K x y) (hk : ∀ b, b < x.heap.size → K' b → K b) : FK K' x y := ⟨h.os, h.output, h.size, fun b hb h' => h.block b hb (hk b hb h')⟩
theorem Byts.upT {W W' : World} {aa : Option Addr} {ab ao len cap : Nat} {f : Nat → Int} (h : Byts W aa ab ao len cap f) (u : Up W W') : Byts W' aa ab ao len cap f :=
  ⟨h.lc, h.cm, h.ad, h.u8, fun k hk => (u.cell (World.block_lt_of_cell? _ _ (h.cell k hk))).trans (h.cell k hk)⟩
theorem NmAt.frN {w w' : World} {g n c : Nat} {f : Nat → Int} (h : NmAt w g n f) (fr : Fr c w w') (hg : g ≠ c) : NmAt w' g n f := h.of_block (fr.block _ h.lt hg)
theorem heap_at {w : World} {b : Nat} {cs : Array Value} {ty : TypeId} (h : w.heap[b]? = some (.cells cs ty (0, 0))) : b < w.heap.size := (Array.getElem?_eq_some_iff.1 h).1
theorem own_slice3 {w : World} {base n size : Nat} {ty : TypeId} {v : Value} {xs : List Value} (h : w.ownsRow base ty size v n xs) : ∃ va vn vc, v = .slice va vn vc := by
  rcases h.2 with ⟨hv, _⟩ | ⟨g, cap, cur, hv, _⟩
  · exact ⟨_, _, _, hv⟩
  · exact ⟨_, _, _, hv⟩
theorem heap_cell {w : World} {q o : Nat} {cs : Array Value} {ty : TypeId} {v : Value} (h : w.heap[q]? = some (.cells cs ty (0, 0))) (ho : cs[o]? = some v) : w.cell? ⟨q, o, none⟩ = some v := by
  rw [cell_of_row _ _ _ _ _ _ h]
  exact ho
theorem heap_fz {w : World} {q o : Nat} {cs : Array Value} {ty : TypeId} (h : w.heap[q]? = some (.cells cs ty (0, 0))) : w.frozen? ⟨q, o, none⟩ = false := by simp [World.frozen?, h]
def cellsF (f : Nat → Int) (n : Nat) : List Value := (List.range' 0 n).map fun k => .int .u8 (f k)
theorem cellsF_len (f : Nat → Int) (n : Nat) : (cellsF f n).length = n := by unfold cellsF; rw [List.length_map, List.length_range']
theorem cellsF_at (f : Nat → Int) (n k : Nat) (h : k < n) : (cellsF f n)[k]? = some (.int .u8 (f k)) := by
  unfold cellsF
  rw [List.getElem?_map, List.getElem?_range' h]
  simp
section
variable {w : World} {ops : Array Oper} {rest : List Oper} {o : Oper} {a : Act} {Q : Exit → Act → World → Prop}
theorem wpList_copyG (hgd : o.guard = none) (d s : Operand) (ho : o.op = .call { callee := .builtin .copy, args := #[d, s], argTypes := #[28, 28] })
    (g off dLen dCap : Nat) (ad : Addr) (sLen sCap : Nat) (hd : a.eval d = .slice (some ⟨g, off, none⟩) dLen dCap) (hs : a.eval s = .slice (some ad) sLen sCap)
    (n m : Nat) (cur : Array Value) (t : TypeId) (hg : w.heap[g]? = some (.cells cur t (0, 0))) (hz : cur.size = n) (h : Nat → Int) (hm : m = Nat.min sLen dLen)
    (hsrc : ∀ k, k < m → w.cell? (ad.add k) = some (.int .u8 (h k))) (hfit : off + m ≤ n)
    (next : ∀ w' cs, w'.heap[g]? = some (.cells cs t (0, 0)) → cs.size = n → (∀ k, k < n → cs[k]? = if off ≤ k ∧ k < off + m then some (.int .u8 (h (k - off))) else cur[k]?) → Fr g w w' → wpList Tryz.prog ops Q rest (a.put o.dst (goInt m)) w') : wpList Tryz.prog ops Q (o :: rest) a w := by
  have hl := cellsF_len h m
  refine wpList_copy_own hgd d s 28 28 ho 5 Tryz.underlying28 (by kernel_rfl) g off dLen dCap ad sLen sCap hd hs cur t hg (cellsF h m) (hl.trans hm) (fun j v hj => ?_) (by rw [hl, hz]; exact hfit) (fun v hv => ?_) ?_
  · have hj2 : j < m := by
      have := (List.getElem?_eq_some_iff.1 hj).1
      rw [hl] at this
      exact this
    rw [cellsF_at h m j hj2] at hj
    rw [← hj]
    exact hsrc j hj2
  · unfold cellsF at hv
    obtain ⟨k, _, rfl⟩ := List.mem_map.1 hv
    rfl
  · rw [hl]
    refine next _ _ (setRow_heap w g cur _ t (0, 0) hg) ?_ (fun k hk => ?_) (Fr.refl g w).setRow
    · rw [List.size_toArray, List.length_append, List.length_append, List.length_take, List.length_drop, hl, Array.length_toList, hz]
      omega
    · rw [List.getElem?_toArray]
      have lt : (cur.toList.take off).length = off := by rw [List.length_take, Array.length_toList, hz]; omega
      by_cases h1 : k < off
      · rw [List.getElem?_append_left (by rw [lt]; exact h1), List.getElem?_take, if_pos h1, if_neg (by omega), Array.getElem?_toList]
      · rw [List.getElem?_append_right (by rw [lt]; omega), lt]
        by_cases h2 : k < off + m
        · rw [List.getElem?_append_left (by rw [hl]; omega), cellsF_at h m (k - off) (by omega), if_pos ⟨by omega, h2⟩]
        · rw [List.getElem?_append_right (by rw [hl]; omega), hl, List.getElem?_drop, if_neg (by omega), show off + m + (k - off - m) = k by omega, Array.getElem?_toList]
def putF (f h : Nat → Int) (off m : Nat) (k : Nat) : Int := if off ≤ k ∧ k < off + m then h (k - off) else f k
theorem wpList_copyN (hgd : o.guard = none) (d s : Operand) (ho : o.op = .call { callee := .builtin .copy, args := #[d, s], argTypes := #[28, 28] })
    (g off dLen dCap : Nat) (ad : Addr) (sLen sCap : Nat) (hd : a.eval d = .slice (some ⟨g, off, none⟩) dLen dCap) (hs : a.eval s = .slice (some ad) sLen sCap)
    (n m : Nat) (f h : Nat → Int) (hN : NmAt w g n f) (hm : m = Nat.min sLen dLen)
    (hsrc : ∀ k, k < m → w.cell? (ad.add k) = some (.int .u8 (h k))) (hfit : off + m ≤ n)
    (next : ∀ w', NmAt w' g n (putF f h off m) → Fr g w w' → wpList Tryz.prog ops Q rest (a.put o.dst (goInt m)) w') : wpList Tryz.prog ops Q (o :: rest) a w := by
  obtain ⟨cs, ty, h1, h2, h3⟩ := hN.row
  refine wpList_copyG hgd d s ho g off dLen dCap ad sLen sCap hd hs n m cs ty h1 h2 h hm hsrc hfit (fun w' cs' e1 e2 e3 f3 => next w' ⟨cs', ty, e1, e2, fun k hk => ?_⟩ f3)
  rw [e3 k hk]
  unfold putF
  by_cases e : off ≤ k ∧ k < off + m
  · rw [if_pos e, if_pos e]
  · rw [if_neg e, if_neg e, h3 k hk]
end
theorem made_nm (w : World) (n : Nat) : NmAt (w.alloc (.cells (madeCells #[.int .u8 0] n) 5)) w.heap.size n (fun _ => 0) := by
  refine ⟨_, _, heap_alloc_new w _, by simp [madeCells], fun k hk => ?_⟩
  simp [madeCells, hk, Nat.mod_one]
section
variable {w : World} {ops : Array Oper} {rest : List Oper} {o : Oper} {a : Act} {Q : Exit → Act → World → Prop}
theorem wpList_copyO (hgd : o.guard = none) (d s : Operand) (ho : o.op = .call { callee := .builtin .copy, args := #[d, s], argTypes := #[28, 28] })
    (g off dLen dCap : Nat) (sp : Option Addr) (sLen sCap : Nat) (hd : a.eval d = .slice (some ⟨g, off, none⟩) dLen dCap) (hs : a.eval s = .slice sp sLen sCap)
    (n m : Nat) (f h : Nat → Int) (hN : NmAt w g n f) (hm : m = Nat.min sLen dLen)
    (hsrc : 0 < m → ∃ ad, sp = some ad ∧ ∀ k, k < m → w.cell? (ad.add k) = some (.int .u8 (h k))) (hfit : off + m ≤ n)
    (next : ∀ w', NmAt w' g n (putF f h off m) → Fr g w w' → wpList Tryz.prog ops Q rest (a.put o.dst (goInt m)) w') : wpList Tryz.prog ops Q (o :: rest) a w := by
  by_cases h0 : m = 0
  · subst h0
    refine wpList_copy_nothing hgd d s 28 28 ho 5 Tryz.underlying28 (by kernel_rfl) _ sp dLen dCap sLen sCap hd hs hm.symm ?_
    exact next w (hN.congr (fun k _ => by unfold putF; rw [if_neg (by omega)])) (Fr.refl g w)
  · obtain ⟨ad, rfl, hc⟩ := hsrc (by omega)
    exact wpList_copyN hgd d s ho g off dLen dCap ad sLen sCap hd hs n m f h hN hm hc hfit next
end
/-- bytes as a string -/
def strN (n : Nat) (f : Nat → Int) : ByteArray := strOfNums ((List.range' 0 n).map f)
theorem NmAt.conv {w : World} {g n : Nat} {f : Nat → Int} (h : NmAt w g n f) (c : Nat) : (convert 28 9 (.slice (some ⟨g, 0, none⟩) n c)).run Tryz.prog w = .ok (.string (strN n f)) w := by
  refine run_convert_bytes_arg w 28 5 Tryz.underlying28 Tryz.underlying5 g 0 n c ((List.range' 0 n).map f) (by rw [List.length_map, List.length_range']) (fun i hi => ?_) 9 Tryz.underlying9
  rw [Nat.zero_add, h.cell i hi]
  congr 2
  unfold List.getD
  rw [List.getElem?_map, List.getElem?_range' hi]
  simp
/-- a row of bytes as a list of values -/
def rowL (F : Nat → Int) (n : Nat) : List Value := (List.range n).map fun k => .int .u8 (F k)
theorem rowL_len (F : Nat → Int) (n : Nat) : (rowL F n).length = n := by unfold rowL; simp
theorem rowL_succ (F : Nat → Int) (n : Nat) : rowL F (n + 1) = rowL F n ++ [.int .u8 (F n)] := by
  unfold rowL
  rw [List.range_succ, List.map_append]
  rfl
theorem rowL_four (F : Nat → Int) (n : Nat) : rowL F (n + 4) = rowL F n ++ [.int .u8 (F n), .int .u8 (F (n + 1)), .int .u8 (F (n + 2)), .int .u8 (F (n + 3))] := by
  rw [show n + 4 = n + 1 + 1 + 1 + 1 by omega, rowL_succ, rowL_succ, rowL_succ, rowL_succ]
  simp [List.append_assoc]
theorem rowL_at (F : Nat → Int) (n k : Nat) (h : k < n) : (rowL F n)[k]? = some (.int .u8 (F k)) := by
  unfold rowL
  rw [List.getElem?_map, List.getElem?_range h]
  rfl
theorem rowL_one (F : Nat → Int) (n : Nat) : ∀ v ∈ rowL F n, v.oneCell' = true := by
  intro v hv
  unfold rowL at hv
  obtain ⟨k, _, rfl⟩ := List.mem_map.1 hv
  rfl
theorem rowL_congr {F H : Nat → Int} (n : Nat) (h : ∀ k, k < n → F k = H k) : rowL F n = rowL H n := by
  unfold rowL
  apply List.map_congr_left
  intro k hk
  rw [h k (List.mem_range.1 hk)]
/-- a row of one's own is a slice of bytes -/
theorem own_byts {w : World} {base n : Nat} {v : Value} {F : Nat → Int} (h : w.ownsRow base 5 1 v n (rowL F n)) (hF : ∀ k, 0 ≤ F k ∧ F k ≤ 255) : ∃ oa ob oc, v = .slice oa n oc ∧ Byts w oa ob 0 n oc F ∧ (0 < n → base ≤ ob ∧ oa = some ⟨ob, 0, none⟩ ∧ v.ownBlock = some ob) := by
  rcases h.2 with ⟨hv, hn⟩ | ⟨g, cap, cur, hv, hb, hg, hc, hm, hs, ht⟩
  · subst hn
    exact ⟨none, 0, 0, hv, ⟨Nat.le_refl _, Nat.zero_le _, fun h => absurd h (by decide), hF, fun k hk => absurd hk (by omega)⟩, fun h => absurd h (by decide)⟩
  · refine ⟨some ⟨g, 0, none⟩, g, cap, hv, ⟨hc, hm, fun _ => rfl, hF, fun k hk => ?_⟩, fun _ => ⟨hb, rfl, by rw [hv]; rfl⟩⟩
    have := h.cells (g := g) (by rw [hv]; rfl) k _ (rowL_at F n k hk)
    rw [Addr.add_lit] at this
    exact this
/-- a row of one's own behind some world -/
structure Ow (W : World) (F : Nat → Int) (n : Nat) (v : Value) (w : World) : Prop where
  own : w.ownsRow W.heap.size 5 1 v n (rowL F n)
  up : Up W w
theorem Ow.app {W w w' : World} {F : Nat → Int} {n m : Nat} {v v' : Value} {o : Obj} (h : Ow W F n v w) (hg : (w.alloc o).grownBy w' v.ownBlock) (ho : w'.ownsRow W.heap.size 5 1 v' m (rowL F m)) : Ow W F m v' w' := by
  have u : Up w (w.alloc o) := (Up.refl w).alloc o
  refine ⟨ho, ⟨hg.os.trans h.up.os, hg.output.trans h.up.output, Nat.le_trans h.up.size (Nat.le_trans u.size hg.size), fun k hk => ?_⟩⟩
  have hk2 := Nat.lt_of_lt_of_le hk h.up.size
  refine (hg.block k (Nat.lt_of_lt_of_le hk2 u.size) (fun e => ?_)).trans ((u.block k hk2).trans (h.up.block k hk))
  have := (h.own.lt k e.symm).1
  omega
theorem Ow.alloc {W w : World} {F : Nat → Int} {n : Nat} {v : Value} (h : Ow W F n v w) (o : Obj) : Ow W F n v (w.alloc o) := ⟨h.own.alloc o, h.up.alloc o⟩
theorem ownsRow_up {w w' : World} {base n : Nat} {ty : TypeId} {size : Nat} {v : Value} {xs : List Value} (h : w.ownsRow base ty size v n xs) (u : Up w w') : w'.ownsRow base ty size v n xs :=
  ⟨h.1, h.2.imp id fun ⟨g, cap, cur, h1, h2, h3, h4⟩ => ⟨g, cap, cur, h1, h2, (u.block g (Array.getElem?_eq_some_iff.1 h3).1).trans h3, h4⟩⟩
theorem Ow.moreU {W w w' : World} {F : Nat → Int} {n : Nat} {v : Value} (h : Ow W F n v w) (u : Up w w') : Ow W F n v w' := ⟨ownsRow_up h.own u, h.up.trans u⟩
/-- cells put into a row, one behind the other -/
def putL (cs : Array Value) : Nat → List Value → Array Value
  | _, [] => cs
  | o, v :: r => putL (cs.setIfInBounds o v) (o + 1) r
theorem putL_size : ∀ (vs : List Value) (o : Nat) (cs : Array Value), (putL cs o vs).size = cs.size
  | [], _, _ => rfl
  | v :: r, o, cs => by
    show (putL (cs.setIfInBounds o v) (o + 1) r).size = _
    rw [putL_size r]
    simp
theorem putL_at : ∀ (vs : List Value) (o : Nat) (cs : Array Value) (k : Nat), o + vs.length ≤ cs.size → (putL cs o vs)[k]? = if o ≤ k ∧ k < o + vs.length then vs[k - o]? else cs[k]?
  | [], o, cs, k, h => by
    rw [if_neg (by simp)]
    rfl
  | v :: r, o, cs, k, h => by
    simp only [List.length_cons] at h
    show (putL (cs.setIfInBounds o v) (o + 1) r)[k]? = _
    rw [putL_at r (o + 1) _ k (by simp; omega), Array.getElem?_setIfInBounds]
    simp only [List.length_cons]
    by_cases e : k = o
    · subst e
      rw [if_neg (by omega), if_pos rfl, if_pos (by omega), if_pos (by omega), Nat.sub_self]
      rfl
    · by_cases e2 : o ≤ k ∧ k < o + (r.length + 1)
      · rw [if_pos (by omega), if_pos e2]
        obtain ⟨j, hj⟩ : ∃ j, k - o = j + 1 := ⟨k - o - 1, by omega⟩
        rw [hj, show k - (o + 1) = j by omega]
        rfl
      · rw [if_neg (by omega), if_neg (fun e' => e e'.symm), if_neg e2]
theorem heap_setCells_same (b : Nat) (ty : TypeId) : ∀ (vs : List Value) (o : Nat) (cs : Array Value) (w : World), w.heap[b]? = some (.cells cs ty (0, 0)) → (w.setCells b o vs).heap[b]? = some (.cells (putL cs o vs) ty (0, 0))
  | [], _, _, _, h => h
  | v :: r, o, cs, w, h => by
    show ((w.setCell ⟨b, o, none⟩ v).setCells b (o + 1) r).heap[b]? = some (.cells (putL (cs.setIfInBounds o v) (o + 1) r) ty (0, 0))
    exact heap_setCells_same b ty r (o + 1) _ _ (heap_setCell_same w b o _ _ v h)
theorem fr_setCells (b : Nat) : ∀ (vs : List Value) (o : Nat) (w : World), Fr b w (w.setCells b o vs)
  | [], _, w => Fr.refl b w
  | v :: r, o, w => ((Fr.refl b w).setCell).trans (fr_setCells b r (o + 1) _)
theorem putL_full {cs : Array Value} {l : List Value} (h : l.length = cs.size) : putL cs 0 l = l.toArray := by
  refine Array.ext_getElem? fun k => ?_
  rw [putL_at _ _ _ _ (by omega), Nat.zero_add, Nat.sub_zero]
  by_cases hk : k < l.length
  · rw [if_pos ⟨Nat.zero_le _, hk⟩, List.getElem?_toArray]
  · rw [if_neg (fun h => hk h.2), Array.getElem?_eq_none (by omega), Array.getElem?_eq_none (by simpa using hk)]
theorem setCells_full {w : World} {b : Nat} {cs : Array Value} {ty : TypeId} {l : List Value} (h : w.heap[b]? = some (.cells cs ty (0, 0))) (hl : l.length = cs.size) : (w.setCells b 0 l).heap[b]? = some (.cells l.toArray ty (0, 0)) := by
  rw [heap_setCells_same b ty l 0 cs w h, putL_full hl]
theorem there_heap {w : World} {b o m : Nat} {cs : Array Value} {ty : TypeId} (h : w.heap[b]? = some (.cells cs ty (0, 0))) (hm : o + m ≤ cs.size) : w.there b o m := fun k hk => ⟨by rw [heap_cell h (Array.getElem?_eq_getElem (by omega))]; rfl, heap_fz h⟩
end Go.Proofs.YtdkibohpdkdooaaGreatDoor
/- CpuHidden: the instruction that a number names; a list's entry by number. No condition. -/
namespace Go.Proofs.YtdkibohpdkdooaaGreatDoor
open Go.RowKit
set_option linter.unusedVariables false
structure Ints (W : World) (aa : Option Addr) (ab ao len cap : Nat) (f : Nat → Int) : Prop where
  lc : len ≤ cap
  cm : cap ≤ maxLen
  ad : 0 < len → aa = some ⟨ab, ao, none⟩
  i64 : ∀ k, I64 (f k)
  cell : ∀ k, k < len → W.cell? ⟨ab, ao + k, none⟩ = some (.int .i64 (f k))
theorem Ints.up {W W' : World} {aa : Option Addr} {ab ao len cap : Nat} {f : Nat → Int} (h : Ints W aa ab ao len cap f) (u : Up W W') : Ints W' aa ab ao len cap f :=
  ⟨h.lc, h.cm, h.ad, h.i64, fun k hk => (u.cell (World.block_lt_of_cell? _ _ (h.cell k hk))).trans (h.cell k hk)⟩
def atL (n : Nat) (L : Nat → Int) (i : Nat) : Int := if n = 0 then 0 else L (i % n)
theorem atL_i64 {W : World} {aa : Option Addr} {ab ao n c : Nat} {L : Nat → Int} (h : Ints W aa ab ao n c L) (i : Nat) : I64 (atL n L i) := by
  unfold atL
  split
  · unfold I64; decide
  · exact h.i64 _
theorem l32_byte : ∀ c ∈ l32, 0 ≤ c ∧ c ≤ 255 := by decide
theorem pl_b {c : Int} (h : Pl c) : 0 ≤ c ∧ c ≤ 255 := by
  rcases h with ⟨y, z, hy, hz, _, rfl⟩ | h
  · omega
  · exact l32_byte c h
theorem pick_in (c n : Int) (hn : 0 < n) : 0 ≤ pickI c n ∧ pickI c n < n := by
  unfold pickI
  split
  · exact ⟨Int.emod_nonneg _ (by omega), Int.emod_lt_of_pos _ hn⟩
  · exact ⟨Int.emod_nonneg _ (by omega), Int.emod_lt_of_pos _ hn⟩
set_option maxRecDepth 100000 in
set_option maxHeartbeats 1000000 in
theorem plain_any (x : Int) (hx : I64 x) (W : World) : Calls Tryz.prog 6 #[.int .i64 x] W fun e w' => (∃ c, e = .returned (.int .u8 c) ∧ Pl c) ∧ Up W w' := by
  have HP1 : Hid (∀ w, Calls Tryz.prog 11 #[.int .i64 x, .int .i64 128] w fun e w' => e = .returned (.int .i64 (pickI x 128)) ∧ w' = w) := fun w => pick_any x 128 w hx (by decide) (by decide)
  have hxq : I64 (x.tdiv 128) := by
    obtain ⟨h1, h2⟩ := hx
    refine ⟨?_, ?_⟩
    · rcases Int.le_total 0 x with h | h
      · have := Int.tdiv_nonneg h (show (0 : Int) ≤ 128 by decide); omega
      · have : (-x).tdiv 128 ≤ -x := Int.tdiv_le_self _ (by omega)
        rw [Int.neg_tdiv] at this; omega
    · rcases Int.le_total 0 x with h | h
      · have := Int.tdiv_le_self 128 h; omega
      · have : 0 ≤ (-x).tdiv 128 := Int.tdiv_nonneg (by omega) (by decide)
        rw [Int.neg_tdiv] at this; omega
  have b1 := pick_in x 128 (by decide)
  have b2 := pick_in (x.tdiv 128) 32 (by decide)
  have hw : wrap64 (x.tdiv 128) = x.tdiv 128 := by obtain ⟨h1, h2⟩ := hxq; unfold wrap64; omega
  have HP2 : Hid (∀ w, Calls Tryz.prog 11 #[.int .i64 (wrap64 (x.tdiv 128)), .int .i64 32] w fun e w' => e = .returned (.int .i64 (pickI (x.tdiv 128) 32)) ∧ w' = w) := fun w => by rw [hw]; exact pick_any _ 32 w hxq (by decide) (by decide)
  obtain ⟨k, hk⟩ : ∃ k : Nat, pickI x 128 = (k : Int) := ⟨(pickI x 128).toNat, by omega⟩
  obtain ⟨j, hj⟩ : ∃ j : Nat, pickI (x.tdiv 128) 32 = (j : Int) := ⟨(pickI (x.tdiv 128) 32).toNat, by omega⟩
  rw [hk] at HP1 b1
  rw [hj] at HP2 b2
  clear hk hj hx hxq hw
  go_enter Tryz.func6, Tryz.ntmps6
  go_wp2_with fail
  refine (HP1.out W).mono ?_
  rintro e w' ⟨rfl, rfl⟩
  go_wp2_with fail
  any_goals (
    go_ret
    have h6 := ‹(((k : Int) % 8) != 6) = true›
    have h7 := ‹(k : Int) < 64›
    have h8 : k % 8 ≠ 6 := fun e => by
      have : (k : Int) % 8 = 6 := by omega
      rw [this] at h6; cases h6
    exact ⟨⟨_, rfl, Or.inl ⟨k / 8, k % 8, by omega, by omega, h8, by omega⟩⟩, Up.refl _⟩)
  all_goals
    have hjn : j < 32 := by omega
    have hj2 : (j : Int) < 32 := b2.2
    generalize hW2 : World.alloc w' _ = W2
    have HU : Hid (Up w' W2) := by rw [← hW2]; exact (Up.refl w').alloc _
    have HC : W2.cell? ⟨w'.heap.size, j, none⟩ = some (.int .u8 (l32.getD j 0)) := by
      have hl : j < l32.length := hjn
      rw [← hW2, World.cell?_alloc_new]
      show (l32.map (Value.int .u8)).toArray[j]? = _
      simp [List.getD, hl]
    have HM : Pl (l32.getD j 0) := by
      have hl : j < l32.length := hjn
      refine Or.inr ?_
      rw [show l32.getD j 0 = l32[j] by simp [List.getD, hl]]
      exact List.getElem_mem hl
    clear hW2
    generalize l32.getD j 0 = c at *
    refine (HP2.out W2).mono ?_
    rintro e w2 ⟨rfl, hw2⟩
    obtain rfl := hw2.symm
    clear hw2
    go_wp2_with fail
    go_ret
    exact ⟨⟨c, rfl, HM⟩, HU.out⟩
set_option maxRecDepth 100000 in
set_option maxHeartbeats 600000 in
theorem at_list {W : World} {aa : Option Addr} {ab ao n c : Nat} {L : Nat → Int} (h : Ints W aa ab ao n c L) (i : Nat) (hi : i ≤ 100000) : Calls Tryz.prog 12 #[.slice aa n c, .int .i64 i] W fun e w' => e = .returned (.int .i64 (atL n L i)) ∧ Up W w' := by
  have l1 := h.lc
  have l2 : c ≤ 9223372036854775807 := by have := h.cm; unfold maxLen at this; omega
  by_cases h0 : n = 0
  · subst h0
    have e : atL 0 L i = 0 := rfl
    rw [e]
    clear h
    go_enter Tryz.func12, Tryz.ntmps12
    go_wp2_with fail
    go_ret
    exact ⟨rfl, Up.refl W⟩
  · have e : atL n L i = L (i % n) := if_neg h0
    rw [e]
    obtain rfl := h.ad (by omega)
    have hlt : i % n < n := Nat.mod_lt _ (by omega)
    have kc := h.cell (i % n) hlt
    have e1 : ((n : Int) == 0) = false := beq_eq_false_iff_ne.2 (by omega)
    have e2 : ((i : Int)).tmod (n : Int) = ((i % n : Nat) : Int) := by rw [Int.tmod_eq_emod_of_nonneg (by omega)]; rfl
    have e3 : ((i % n : Nat) : Int) < (n : Int) := by omega
    have hn0 : ¬ ((n : Int) = 0) := by omega
    generalize i % n = j at *
    clear h
    go_enter Tryz.func12, Tryz.ntmps12
    go_wp2_with fail
    go_ret
    exact ⟨by first | rfl | (simp; done), by first | exact Up.refl W | exact Up.drewN _ _⟩
end Go.Proofs.YtdkibohpdkdooaaGreatDoor
/- CpuHidden: its memory of six pieces; what the walk takes of the cycles. No condition. -/
namespace Go.Proofs.YtdkibohpdkdooaaGreatDoor
open Go.RowKit
set_option linter.unusedVariables false
def six (bs : List Int) : List Pc := [⟨512, bs⟩, ⟨64, [217]⟩, ⟨72, [217]⟩, ⟨80, [217]⟩, ⟨88, [217]⟩, ⟨96, [217]⟩]
def memH (bs : List Int) : Nat → Int := upd (upd (upd (upd (upd (mem1 512 bs) 64 217) 72 217) 80 217) 88 217) 96 217
theorem mem_six (bs : List Int) : memP (six bs) 6 = memH bs := by kernel_rfl
theorem memH_code (bs : List Int) (hn : bs.length ≤ 60) : Code bs.length (fun i => bs.getD i 0) (memH bs) := by
  have hl : ∀ k, k < 60 → ladr 512 k = 512 + k := fun k hk => by rw [ladr_in 512 k (by decide) (by decide)]; omega
  refine ⟨fun i hi => ?_, fun k hk => ?_, fun m hm => ?_⟩
  · unfold memH Go.Proofs.YtdkibohpdkdooaaGreatDoor.upd
    rw [if_neg (by omega), if_neg (by omega), if_neg (by omega), if_neg (by omega), if_neg (by omega)]
    have := lay_at (fun _ => 0) 512 bs bs.length (by omega) i hi
    rw [hl i (by omega)] at this
    exact this
  · unfold memH Go.Proofs.YtdkibohpdkdooaaGreatDoor.upd
    rw [if_neg (by omega), if_neg (by omega), if_neg (by omega), if_neg (by omega), if_neg (by omega)]
    exact lay_off (fun _ => 0) 512 bs k bs.length (fun j hj => by rw [hl j (by omega)]; omega)
  · have : m = 0 ∨ m = 1 ∨ m = 2 ∨ m = 3 ∨ m = 4 := by omega
    rcases this with rfl | rfl | rfl | rfl | rfl <;> rfl
theorem upd_byt {f : Nat → Int} (h : Byt f) (i : Nat) (v : Int) (h0 : 0 ≤ v) (h1 : v ≤ 255) : Byt (upd f i v) := fun k => by
  unfold Go.Proofs.YtdkibohpdkdooaaGreatDoor.upd
  split
  · exact ⟨h0, h1⟩
  · exact h k
theorem memH_byt (bs : List Int) (h : ∀ x ∈ bs, 0 ≤ x ∧ x ≤ 255) : Byt (memH bs) := by
  have h0 := mem1_byt 512 bs h
  unfold memH
  exact upd_byt (upd_byt (upd_byt (upd_byt (upd_byt h0 _ _ (by decide) (by decide)) _ _ (by decide) (by decide)) _ _ (by decide) (by decide)) _ _ (by decide) (by decide)) _ _ (by decide) (by decide)
/-- a list of bytes that the walk has made, as it lies -/
structure Lst (W : World) (pa : Option Addr) (n cap : Nat) (bs : List Int) : Prop where
  len : bs.length = n
  lc : n ≤ cap
  cm : cap ≤ maxLen
  has : ∃ gb, gb < W.heap.size ∧ (0 < n → pa = some ⟨gb, 0, none⟩) ∧ ∀ k (hk : k < bs.length), W.cell? ⟨gb, k, none⟩ = some (.int .u8 bs[k])
def one217 (W : World) (b : Nat) : Prop := W.heap[b]? = some (.cells #[.int .u8 217] 5 (0, 0))
theorem one_cell {W : World} {b : Nat} (h : one217 W b) : W.cell? ⟨b, 0, none⟩ = some (.int .u8 217) := heap_cell h rfl
/-- six pieces as they lie -/
theorem pcs6 {W : World} {gp b1 b2 b3 b4 b5 : Nat} {pa : Option Addr} {n cap : Nat} {bs : List Int}
    (hg : W.heap[gp]? = some (.cells #[.int .i64 512, .slice pa n cap, .int .i64 64, .slice (some ⟨b1, 0, none⟩) 1 1, .int .i64 72, .slice (some ⟨b2, 0, none⟩) 1 1, .int .i64 80, .slice (some ⟨b3, 0, none⟩) 1 1, .int .i64 88, .slice (some ⟨b4, 0, none⟩) 1 1, .int .i64 96, .slice (some ⟨b5, 0, none⟩) 1 1] 31 (0, 0)))
    (hl : Lst W pa n cap bs) (hb : ∀ x ∈ bs, 0 ≤ x ∧ x ≤ 255) (hn : n ≤ 1000) (h1 : one217 W b1) (h2 : one217 W b2) (h3 : one217 W b3) (h4 : one217 W b4) (h5 : one217 W b5) : Pcs W gp (six bs) := by
  have hc : ∀ k v, (#[Value.int .i64 512, .slice pa n cap, .int .i64 64, .slice (some ⟨b1, 0, none⟩) 1 1, .int .i64 72, .slice (some ⟨b2, 0, none⟩) 1 1, .int .i64 80, .slice (some ⟨b3, 0, none⟩) 1 1, .int .i64 88, .slice (some ⟨b4, 0, none⟩) 1 1, .int .i64 96, .slice (some ⟨b5, 0, none⟩) 1 1] : Array Value)[k]? = some v → W.cell? ⟨gp, k, none⟩ = some v := fun k v e => heap_cell hg e
  have hq : ∀ b, one217 W b → ∀ k (hk : k < ([217] : List Int).length), W.cell? ⟨b, k, none⟩ = some (.int .u8 ([217] : List Int)[k]) ∧ 0 ≤ ([217] : List Int)[k] ∧ ([217] : List Int)[k] ≤ 255 := fun b h k hk => by
    have : k = 0 := by have : k < 1 := hk; omega
    subst this
    exact ⟨one_cell h, (show (0 : Int) ≤ 217 by decide), (show (217 : Int) ≤ 255 by decide)⟩
  refine ⟨heap_at hg, fun i h => ?_⟩
  have hi : i = 0 ∨ i = 1 ∨ i = 2 ∨ i = 3 ∨ i = 4 ∨ i = 5 := by have : i < 6 := h; omega
  obtain ⟨gb, g1, g2, g3⟩ := hl.has
  have hlen := hl.len
  rcases hi with rfl | rfl | rfl | rfl | rfl | rfl
  · refine ⟨(show I64 512 by unfold I64; decide), gb, g1, hc 0 _ rfl, ⟨pa, cap, ?_, fun h0 => g2 (by have : 0 < bs.length := h0; omega)⟩, by show bs.length ≤ 1000; omega, fun k hk => ⟨g3 k hk, hb _ (List.getElem_mem hk)⟩⟩
    show W.cell? ⟨gp, 1, none⟩ = some (.slice pa bs.length cap)
    rw [hlen]
    exact hc 1 _ rfl
  · exact ⟨(show I64 64 by unfold I64; decide), b1, heap_at h1, hc 2 _ rfl, ⟨_, _, hc 3 _ rfl, fun _ => rfl⟩, (show 1 ≤ 1000 by decide), hq b1 h1⟩
  · exact ⟨(show I64 72 by unfold I64; decide), b2, heap_at h2, hc 4 _ rfl, ⟨_, _, hc 5 _ rfl, fun _ => rfl⟩, (show 1 ≤ 1000 by decide), hq b2 h2⟩
  · exact ⟨(show I64 80 by unfold I64; decide), b3, heap_at h3, hc 6 _ rfl, ⟨_, _, hc 7 _ rfl, fun _ => rfl⟩, (show 1 ≤ 1000 by decide), hq b3 h3⟩
  · exact ⟨(show I64 88 by unfold I64; decide), b4, heap_at h4, hc 8 _ rfl, ⟨_, _, hc 9 _ rfl, fun _ => rfl⟩, (show 1 ≤ 1000 by decide), hq b4 h4⟩
  · exact ⟨(show I64 96 by unfold I64; decide), b5, heap_at h5, hc 10 _ rfl, ⟨_, _, hc 11 _ rfl, fun _ => rfl⟩, (show 1 ≤ 1000 by decide), hq b5 h5⟩
theorem mem_any6 {W : World} {gp : Nat} {bs : List Int} (hp : Pcs W gp (six bs)) : Calls Tryz.prog 7 #[.slice (some ⟨gp, 0, none⟩) 6 6] W fun e w' => e = .returned (.slice (some ⟨W.heap.size, 0, none⟩) 65536 65536) ∧ Mem w' W.heap.size (memH bs) ∧ Up W w' := by
  have h := memory_any gp (six bs) (show 6 ≤ 1000 by decide) W hp
  rw [show (six bs).length = 6 from rfl, mem_six] at h
  exact h
theorem Pcs.upP {W W' : World} {gp : Nat} {ps : List Pc} (h : Pcs W gp ps) (u : Up W W') : Pcs W' gp ps := by
  refine ⟨Nat.lt_of_lt_of_le h.lt u.size, fun i hi => ?_⟩
  obtain ⟨a, gb, g1, c1, ⟨pa, cp, c2, c3⟩, l1, c4⟩ := h.has i hi
  exact ⟨a, gb, Nat.lt_of_lt_of_le g1 u.size, (u.cell h.lt).trans c1, ⟨pa, cp, (u.cell h.lt).trans c2, c3⟩, l1, fun k hk => ⟨(u.cell g1).trans (c4 k hk).1, (c4 k hk).2⟩⟩
/-- the six rows that a literal of pieces makes -/
theorem six_new (W : World) (cs : Array Value) : ∀ V, ((((((W.alloc (.cells #[.int .u8 217] 5)).alloc (.cells #[.int .u8 217] 5)).alloc (.cells #[.int .u8 217] 5)).alloc (.cells #[.int .u8 217] 5)).alloc (.cells #[.int .u8 217] 5)).alloc (.cells cs 31)) = V →
    V.heap[W.heap.size + 1 + 1 + 1 + 1 + 1]? = some (.cells cs 31 (0, 0)) ∧ one217 V W.heap.size ∧ one217 V (W.heap.size + 1) ∧ one217 V (W.heap.size + 1 + 1) ∧ one217 V (W.heap.size + 1 + 1 + 1) ∧ one217 V (W.heap.size + 1 + 1 + 1 + 1) ∧ Up W V := by
  intro V hV
  have n1 := heap_alloc_new W (.cells #[.int .u8 217] 5)
  have s1 : (W.alloc (.cells #[.int .u8 217] 5)).heap.size = W.heap.size + 1 := by simp
  have u1 : Up W (W.alloc (.cells #[.int .u8 217] 5)) := (Up.refl W).alloc _
  generalize W.alloc (.cells #[.int .u8 217] 5) = W1 at *
  have n2 := heap_alloc_new W1 (.cells #[.int .u8 217] 5)
  have s2 : (W1.alloc (.cells #[.int .u8 217] 5)).heap.size = W1.heap.size + 1 := by simp
  have u2 : Up W1 (W1.alloc (.cells #[.int .u8 217] 5)) := (Up.refl W1).alloc _
  generalize W1.alloc (.cells #[.int .u8 217] 5) = W2 at *
  have n3 := heap_alloc_new W2 (.cells #[.int .u8 217] 5)
  have s3 : (W2.alloc (.cells #[.int .u8 217] 5)).heap.size = W2.heap.size + 1 := by simp
  have u3 : Up W2 (W2.alloc (.cells #[.int .u8 217] 5)) := (Up.refl W2).alloc _
  generalize W2.alloc (.cells #[.int .u8 217] 5) = W3 at *
  have n4 := heap_alloc_new W3 (.cells #[.int .u8 217] 5)
  have s4 : (W3.alloc (.cells #[.int .u8 217] 5)).heap.size = W3.heap.size + 1 := by simp
  have u4 : Up W3 (W3.alloc (.cells #[.int .u8 217] 5)) := (Up.refl W3).alloc _
  generalize W3.alloc (.cells #[.int .u8 217] 5) = W4 at *
  have n5 := heap_alloc_new W4 (.cells #[.int .u8 217] 5)
  have s5 : (W4.alloc (.cells #[.int .u8 217] 5)).heap.size = W4.heap.size + 1 := by simp
  have u5 : Up W4 (W4.alloc (.cells #[.int .u8 217] 5)) := (Up.refl W4).alloc _
  generalize W4.alloc (.cells #[.int .u8 217] 5) = W5 at *
  have n6 := heap_alloc_new W5 (.cells cs 31)
  have u6 : Up W5 (W5.alloc (.cells cs 31)) := (Up.refl W5).alloc _
  rw [hV] at n6 u6
  rw [s5, s4, s3, s2, s1] at n6
  rw [s4, s3, s2, s1] at n5
  rw [s3, s2, s1] at n4
  rw [s2, s1] at n3
  rw [s1] at n2
  refine ⟨n6, ?_, ?_, ?_, ?_, ?_, u1.trans (u2.trans (u3.trans (u4.trans (u5.trans u6))))⟩
  · exact ((u2.trans (u3.trans (u4.trans (u5.trans u6)))).block _ (by omega)).trans n1
  · exact ((u3.trans (u4.trans (u5.trans u6))).block _ (by omega)).trans n2
  · exact ((u4.trans (u5.trans u6)).block _ (by omega)).trans n3
  · exact ((u5.trans u6).block _ (by omega)).trans n4
  · exact (u6.block _ (by omega)).trans n5
theorem getD_range (F : Nat → Int) (n k : Nat) (h : k < n) : ((List.range n).map F).getD k 0 = F k := by simp [List.getD, h]
theorem lst_byts {W : World} {pa : Option Addr} {pb n cap : Nat} {F : Nat → Int} (h : Byts W pa pb 0 n cap F) (g : Nat) (hg : g < W.heap.size) : Lst W pa n cap ((List.range n).map F) := by
  refine ⟨by simp, h.lc, h.cm, ?_⟩
  by_cases h0 : n = 0
  · exact ⟨g, hg, fun e => absurd e (by omega), fun k hk => absurd (by simpa using hk : k < n) (by omega)⟩
  · have k0 := h.cell 0 (by omega)
    refine ⟨pb, World.block_lt_of_cell? _ _ k0, h.ad, fun k hk => ?_⟩
    have hk' : k < n := by simpa using hk
    have := h.cell k hk'
    rw [Nat.zero_add] at this
    rw [this]
    simp
/-- the world of the loop -/
structure Hm (w : World) (bx ba gm n : Nat) (c : Nat → Int) (R : Nat → Nat → Int) (j : Nat) (s : St) (f : Nat → Int) (W : World) : Prop where
  px : Cp W bx s
  mm : Mem W gm f
  py : Cp W ba (bd (R n) 60000 (pcI n) true)
  inv : s.Inv
  byt : Byt f
  at_ : ∃ k, At n c R f s k ∧ (2000 ≤ j → k + (j - 2000) ≤ 193)
  code : Code n c f
  up : Up w W
  lb : LaidB W
/-- what does not change -/
structure Hs (w : World) (bx ba gm n : Nat) (c : Nat → Int) (R : Nat → Nat → Int) : Prop where
  nx : w.heap.size ≤ bx
  ny : bx < ba
  ng : ba < gm
  w0 : 0 < w.heap.size
  hn : n ≤ 60
  pl : ∀ i, i < n → Pl (c i)
  rr : ∀ i, i < n → R (i + 1) = stp (c i) (R i)
variable {w : World} {bx ba gm n : Nat} {c : Nat → Int} {R : Nat → Nat → Int} {j : Nat} {s : St} {f : Nat → Int} {W : World}
theorem Hm.more {W' : World} (h : Hm w bx ba gm n c R j s f W) (u : Up W W') : Hm w bx ba gm n c R j s f W' :=
  ⟨h.px.up u, h.mm.up u, h.py.up u, h.inv, h.byt, h.at_, h.code, h.up.trans u, h.lb.up u⟩
theorem hm_cycle (S : Hs w bx ba gm n c R) (h : Hm w bx ba gm n c R j s f W) (l : Int) (hl : I64 l) (hl2 : 2000 ≤ j → l = 0) (hend : ¬ (s.phase = 0 ∧ s.pc = pcI n ∧ s.sp = 60000)) :
    Calls Tryz.prog 13 #[.pointer (some ⟨bx, 0, none⟩), .slice (some ⟨gm, 0, none⟩) 65536 65536, .int .i64 l] W fun e w' => ∃ a s' f', e = .returned (.int .i64 a) ∧ Hm w bx ba gm n c R (j + 1) s' f' w' ∧ (a ≠ 0 → Tk n s' f' a) := by
  have hb : bx ≠ 0 := by have := S.nx; have := S.w0; omega
  have hg : gm ≠ bx := by have := S.ny; have := S.ng; omega
  have hg0 : gm ≠ 0 := by have := S.ny; have := S.ng; omega
  refine (cycle_any l bx gm s f W h.px h.inv ⟨h.lb, hb⟩ h.mm h.byt hg hg0 hl).mono ?_
  rintro e w' ⟨rfl, hc, hm, hF⟩
  obtain ⟨k, hk, hk2⟩ := h.at_
  obtain ⟨⟨k', a1, a2⟩, a3, a4⟩ := at_step hk h.code S.hn S.pl S.rr l hend
  refine ⟨_, _, _, rfl, ⟨hc, hm, (hF.block ba h.py.lt (by have := S.ny; omega) (by have := S.ng; omega)).trans h.py, tick_inv s h.inv _ _, wrM_byt s h.inv.ok f h.byt, ⟨k', a1, fun hj => ?_⟩, a3, Fr2.up h.up S.nx (by have := S.nx; have := S.ny; have := S.ng; omega) hF, ?_⟩, a4⟩
  · by_cases hj2 : 2000 ≤ j
    · have := hk2 hj2
      have := a2 (by rw [hl2 hj2]; rfl)
      omega
    · have := a1.low S.hn
      omega
  · refine ⟨Nat.lt_of_lt_of_le h.lb.1 hF.size, fun i hi => ?_⟩
    rw [← h.lb.2 i hi]
    exact Fr2.cellq hF h.lb.1 (fun e => hb e.symm) (fun e => hg0 e.symm)
end Go.Proofs.YtdkibohpdkdooaaGreatDoor
