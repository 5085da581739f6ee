/- CpuWords, plainly. -/
import Derived.Test.YtfbfpcjnpegccaaGreatDoorLw
namespace Go.Proofs.YtfbfpcjnpegccaaGreatDoor
open Go.RowKit
set_option linter.unusedVariables false
/-- between instructions, running -/
def bd (r : Nat → Int) (sp pc : Int) (ime : Bool) : St := { r := r, sp := sp, pc := pc, ime := ime, state := 0, due := false, twice := false, phase := 0, code := 0, done := 0, rd := zf, many := 0, asked := 0 }
def wBs (a b : Int) : List Int := [33, a % 256, a / 256, 17, b % 256, b / 256, 19, 43, 25, 249, 8, 0, 3]
def wF (a b : Int) : Nat → Int := memP [⟨512, wBs a b⟩] 1
def wW (x : Int) : Int := wordP (x / 256 % 256) (x % 256 % 256)
def wR1 (r : Nat → Int) (a : Int) : Nat → Int := upd (upd r 4 (wW a / 256)) 5 (wW a % 256)
def wR2 (r : Nat → Int) (a b : Int) : Nat → Int := upd (upd (wR1 r a) 2 (wW b / 256)) 3 (wW b % 256)
def wE (b : Int) : Int := (wordP (wW b / 256) (wW b % 256) + 1) % 65536
def wR3 (r : Nat → Int) (a b : Int) : Nat → Int := upd (upd (wR2 r a b) 2 (wE b / 256)) 3 (wE b % 256)
def wH (a : Int) : Int := (wordP (wW a / 256) (wW a % 256) - 1) % 65536
def wR4 (r : Nat → Int) (a b : Int) : Nat → Int := upd (upd (wR3 r a b) 4 (wH a / 256)) 5 (wH a % 256)
def wS (a b : Int) : Int := awR (wordP (wH a / 256) (wH a % 256)) (wordP (wE b / 256) (wE b % 256))
def wFl (r : Nat → Int) (a b : Int) : Int := awF (wordP (wH a / 256) (wH a % 256)) (wordP (wE b / 256) (wE b % 256)) (r 6)
def wR5 (r : Nat → Int) (a b : Int) : Nat → Int := upd (upd (upd (wR4 r a b) 4 (wS a b / 256)) 5 (wS a b % 256)) 6 (wFl r a b)
def wSp (a b : Int) : Int := wordP (wS a b / 256) (wS a b % 256)
def wM (a b : Int) : Nat → Int := upd (upd (wF a b) 768 (wSp a b % 256)) 769 (wSp a b / 256)
def wSt (r : Nat → Int) (sp : Int) (ime : Bool) (a b : Int) : Nat → Pm
  | 0 => (bd r sp 512 ime, wF a b)
  | 1 => (bd (wR1 r a) sp 515 ime, wF a b)
  | 2 => (bd (wR2 r a b) sp 518 ime, wF a b)
  | 3 => (bd (wR3 r a b) sp 519 ime, wF a b)
  | 4 => (bd (wR4 r a b) sp 520 ime, wF a b)
  | 5 => (bd (wR5 r a b) sp 521 ime, wF a b)
  | 6 => (bd (wR5 r a b) (wSp a b) 522 ime, wF a b)
  | _ => (bd (wR5 r a b) (wSp a b) 525 ime, wM a b)
def wK (i : Nat) : Nat := [3, 3, 2, 2, 2, 2, 5].getD i 1
theorem wK7 (i : Nat) : wK i ≤ 7 := by
  unfold wK
  rw [List.getD_eq_getElem?_getD]
  cases h : [3, 3, 2, 2, 2, 2, 5][i]? with
  | none => decide
  | some x =>
    have := List.mem_of_getElem? h
    simp only [List.mem_cons, List.not_mem_nil, or_false] at this
    show x ≤ 7
    omega
set_option maxRecDepth 100000 in
theorem wI0 (r : Nat → Int) (sp : Int) (ime : Bool) (a b : Int) : Ins (wSt r sp ime a b 0) 3 (wSt r sp ime a b 1) := by
  refine ⟨by decide, by decide, by kernel_rfl, rfl, fun j h1 h2 => ?_⟩
  have hj : j = 1 ∨ j = 2 := by omega
  rcases hj with rfl | rfl
  · rw [show (cycN 1 (wSt r sp ime a b 0)).1.phase = 1 by kernel_rfl]; decide
  · rw [show (cycN 2 (wSt r sp ime a b 0)).1.phase = 1 by kernel_rfl]; decide
set_option maxRecDepth 100000 in
theorem wI1 (r : Nat → Int) (sp : Int) (ime : Bool) (a b : Int) : Ins (wSt r sp ime a b 1) 3 (wSt r sp ime a b 2) := by
  refine ⟨by decide, by decide, by kernel_rfl, rfl, fun j h1 h2 => ?_⟩
  have hj : j = 1 ∨ j = 2 := by omega
  rcases hj with rfl | rfl
  · rw [show (cycN 1 (wSt r sp ime a b 1)).1.phase = 1 by kernel_rfl]; decide
  · rw [show (cycN 2 (wSt r sp ime a b 1)).1.phase = 1 by kernel_rfl]; decide
set_option maxRecDepth 100000 in
theorem wI2 (r : Nat → Int) (sp : Int) (ime : Bool) (a b : Int) : Ins (wSt r sp ime a b 2) 2 (wSt r sp ime a b 3) := by
  refine ⟨by decide, by decide, by kernel_rfl, rfl, fun j h1 h2 => ?_⟩
  have hj : j = 1 := by omega
  subst hj
  rw [show (cycN 1 (wSt r sp ime a b 2)).1.phase = 1 by kernel_rfl]; decide
set_option maxRecDepth 100000 in
theorem wI3 (r : Nat → Int) (sp : Int) (ime : Bool) (a b : Int) : Ins (wSt r sp ime a b 3) 2 (wSt r sp ime a b 4) := by
  refine ⟨by decide, by decide, by kernel_rfl, rfl, fun j h1 h2 => ?_⟩
  have hj : j = 1 := by omega
  subst hj
  rw [show (cycN 1 (wSt r sp ime a b 3)).1.phase = 1 by kernel_rfl]; decide
set_option maxRecDepth 100000 in
theorem wI4 (r : Nat → Int) (sp : Int) (ime : Bool) (a b : Int) : Ins (wSt r sp ime a b 4) 2 (wSt r sp ime a b 5) := by
  refine ⟨by decide, by decide, by kernel_rfl, rfl, fun j h1 h2 => ?_⟩
  have hj : j = 1 := by omega
  subst hj
  rw [show (cycN 1 (wSt r sp ime a b 4)).1.phase = 1 by kernel_rfl]; decide
set_option maxRecDepth 100000 in
theorem wI5 (r : Nat → Int) (sp : Int) (ime : Bool) (a b : Int) : Ins (wSt r sp ime a b 5) 2 (wSt r sp ime a b 6) := by
  refine ⟨by decide, by decide, by kernel_rfl, rfl, fun j h1 h2 => ?_⟩
  have hj : j = 1 := by omega
  subst hj
  rw [show (cycN 1 (wSt r sp ime a b 5)).1.phase = 1 by kernel_rfl]; decide
set_option maxRecDepth 100000 in
theorem wI6 (r : Nat → Int) (sp : Int) (ime : Bool) (a b : Int) : Ins (wSt r sp ime a b 6) 5 (wSt r sp ime a b 7) := by
  refine ⟨by decide, by decide, by kernel_rfl, rfl, fun j h1 h2 => ?_⟩
  have hj : j = 1 ∨ j = 2 ∨ j = 3 ∨ j = 4 := by omega
  rcases hj with rfl | rfl | rfl | rfl
  · rw [show (cycN 1 (wSt r sp ime a b 6)).1.phase = 1 by kernel_rfl]; decide
  · rw [show (cycN 2 (wSt r sp ime a b 6)).1.phase = 1 by kernel_rfl]; decide
  · rw [show (cycN 3 (wSt r sp ime a b 6)).1.phase = 1 by kernel_rfl]; decide
  · rw [show (cycN 4 (wSt r sp ime a b 6)).1.phase = 1 by kernel_rfl]; decide
theorem wIns (r : Nat → Int) (sp : Int) (ime : Bool) (a b : Int) (i : Nat) (hi : i < 7) : Ins (wSt r sp ime a b i) (wK i) (wSt r sp ime a b (i + 1)) := by
  have : i = 0 ∨ i = 1 ∨ i = 2 ∨ i = 3 ∨ i = 4 ∨ i = 5 ∨ i = 6 := by omega
  rcases this with rfl | rfl | rfl | rfl | rfl | rfl | rfl
  · exact wI0 r sp ime a b
  · exact wI1 r sp ime a b
  · exact wI2 r sp ime a b
  · exact wI3 r sp ime a b
  · exact wI4 r sp ime a b
  · exact wI5 r sp ime a b
  · exact wI6 r sp ime a b
theorem wW_is (x : Int) (h0 : 0 ≤ x) (h1 : x ≤ 65535) : wW x = x := by unfold wW wordP; omega
theorem word_is (x : Int) : wordP (x / 256) (x % 256) = x := by unfold wordP; omega
theorem wE_is (b : Int) (h0 : 0 ≤ b) (h1 : b ≤ 65535) : wE b = (b + 1) % 65536 := by unfold wE; rw [wW_is b h0 h1, word_is]
theorem wH_is (a : Int) (h0 : 0 ≤ a) (h1 : a ≤ 65535) : wH a = (a + 65535) % 65536 := by unfold wH; rw [wW_is a h0 h1, word_is]; omega
theorem wS_is (a b : Int) (h0 : 0 ≤ a) (h1 : a ≤ 65535) (h2 : 0 ≤ b) (h3 : b ≤ 65535) : wS a b = ((a + 65535) % 65536 + (b + 1) % 65536) % 65536 := by
  unfold wS awR; rw [word_is, word_is, wE_is b h2 h3, wH_is a h0 h1]
theorem wSp_is (a b : Int) : wSp a b = wS a b := by unfold wSp; exact word_is _
theorem flgC (z n h c : Bool) : (bits .and .i64 (flg z n h c) 16 != 0) = c := by cases z <;> cases n <;> cases h <;> cases c <;> decide +kernel
theorem flgH (z n h c : Bool) : (bits .and .i64 (flg z n h c) 32 != 0) = h := by cases z <;> cases n <;> cases h <;> cases c <;> decide +kernel
theorem flgN (z h c : Bool) : bits .and .i64 (flg z false h c) 64 = 0 := by cases z <;> cases h <;> cases c <;> decide +kernel
theorem flgZ (z n h c : Bool) : bits .and .i64 (flg z n h c) 128 = flagI z 128 := by cases z <;> cases n <;> cases h <;> cases c <;> decide +kernel
theorem and128i : ∀ x : Int, 0 ≤ x → x ≤ 255 → bits .and .i64 x 128 = flagI (x / 128 == 1) 128 := byteAll (by decide +kernel)
end Go.Proofs.YtfbfpcjnpegccaaGreatDoor
