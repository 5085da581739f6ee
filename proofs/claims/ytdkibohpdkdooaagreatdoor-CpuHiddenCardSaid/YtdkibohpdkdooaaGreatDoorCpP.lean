/- The processor of package cpu as plain numbers: what each of its calls makes of it. No condition. -/
import Derived.Test.YtdkibohpdkdooaaGreatDoorPlain
import Derived.Test.YtdkibohpdkdooaaGreatDoorPlainD
namespace Go.Proofs.YtdkibohpdkdooaaGreatDoor
/-- a processor: bytes B C D E H L F A, and the rest -/
structure St where
  r : Nat → Int
  sp : Int
  pc : Int
  ime : Bool
  state : Int
  due : Bool
  twice : Bool
  phase : Int
  code : Int
  done : Int
  rd : Nat → Int
  many : Int
  asked : Int
def upd (r : Nat → Int) (n : Nat) (v : Int) : Nat → Int := fun k => if k = n then v else r k
/-- a row of acts -/
structure Row where
  a0 : Nat
  a1 : Nat
  a2 : Nat
  a3 : Nat
  a4 : Nat
  a5 : Nat
  sure : Nat
  d : Nat
def Row.act (r : Row) (i : Int) : Nat := if i = 0 then r.a0 else if i = 1 then r.a1 else if i = 2 then r.a2 else if i = 3 then r.a3 else if i = 4 then r.a4 else r.a5
def one3 (k : Nat) : Int := if k = 3 then 1 else 0
def Row.further (r : Row) : Int := one3 r.a0 + one3 r.a1 + one3 r.a2 + one3 r.a3 + one3 r.a4 + one3 r.a5
def St.x (s : St) : Int := s.code / 64
def St.y (s : St) : Int := s.code / 8 % 8
def St.z (s : St) : Int := s.code % 8
def St.p (s : St) : Int := s.code / 16 % 4
def wordP (h l : Int) : Int := h * 256 + l
def St.pair (s : St) (p : Int) : Int := if p = 3 then s.sp else wordP (s.r (2 * p).toNat) (s.r (2 * p + 1).toNat)
def St.pushed (s : St) (p : Int) : Int := if p = 3 then wordP (s.r 7) (s.r 6) else s.pair p
def St.setReg (s : St) (n : Nat) (v : Int) : St := { s with r := upd s.r n v }
def St.setPair (s : St) (p w : Int) : St := if p = 3 then { s with sp := w } else { s with r := upd (upd s.r (2 * p).toNat (w / 256)) (2 * p + 1).toNat (w % 256) }
def St.setPushed (s : St) (p w : Int) : St := if p = 3 then { s with r := upd (upd s.r 7 (w / 256)) 6 (w % 256 / 16 * 16) } else s.setPair p w
def St.setByte (s : St) (n v : Int) : St := if n = 6 then s else { s with r := upd s.r n.toNat v }
def St.latest (s : St) : Int := if s.many = 0 then 0 else s.rd (s.many - 1).toNat
def St.value (s : St) (n : Int) : Int := if n = 6 then s.latest else s.r n.toNat
def St.source (s : St) : Int := s.value s.z
def St.word (s : St) : Int := wordP (s.rd 1) (s.rd 0)
def St.steppedR (s : St) : Int := stR (s.z % 2) (s.value s.y) (s.r 6)
def St.steppedF (s : St) : Int := stF (s.z % 2) (s.value s.y) (s.r 6)
def altR (c v f : Int) : Int := if c / 64 = 0 then shR (c / 8 % 8) v f else if c / 64 = 1 then v else if c / 64 = 2 then reR (c / 8 % 8) v else seR (c / 8 % 8) v
def altF (c v f : Int) : Int := if c / 64 = 0 then shF (c / 8 % 8) v f else if c / 64 = 1 then biF (c / 8 % 8) v f else f
def St.alteredR (s : St) : Int := altR (s.rd 0) (s.value (s.rd 0 % 8)) (s.r 6)
def St.alteredF (s : St) : Int := altF (s.rd 0) (s.value (s.rd 0 % 8)) (s.r 6)
def holdsC (y f : Int) : Bool := if y % 4 = 0 then f / 128 % 2 == 0 else if y % 4 = 1 then f / 128 % 2 == 1 else if y % 4 = 2 then f / 16 % 2 == 0 else f / 16 % 2 == 1
def St.holds (s : St) : Bool := holdsC s.y (s.r 6)
def awR (a b : Int) : Int := (a + b) % 65536
def awF (a b f : Int) : Int := flg (f / 128 == 1) false (decide (4095 < a % 4096 + b % 4096)) (decide (65535 < a + b))
/-- the rows -/
def dispRow : Row := ⟨1, 1, 26, 28, 1, 0, 0, 32⟩
def secondP (c : Int) : Row := if c % 8 ≠ 6 then ⟨3, 0, 0, 0, 0, 0, 0, 31⟩ else if c / 64 = 1 then ⟨3, 6, 0, 0, 0, 0, 0, 31⟩ else ⟨3, 6, 21, 0, 0, 0, 0, 31⟩
def low0 : List Row := [⟨0, 0, 0, 0, 0, 0, 0, 0⟩, ⟨3, 3, 22, 23, 0, 0, 0, 0⟩, ⟨3, 0, 0, 0, 0, 0, 0, 2⟩, ⟨3, 1, 0, 0, 0, 0, 0, 8⟩, ⟨3, 1, 0, 0, 0, 0, 1, 8⟩, ⟨3, 1, 0, 0, 0, 0, 1, 8⟩, ⟨3, 1, 0, 0, 0, 0, 1, 8⟩, ⟨3, 1, 0, 0, 0, 0, 1, 8⟩]
def low1 : List Row := [⟨3, 3, 0, 0, 0, 0, 0, 21⟩, ⟨1, 0, 0, 0, 0, 0, 0, 25⟩]
def low3 : List Row := [⟨1, 0, 0, 0, 0, 0, 0, 23⟩, ⟨1, 0, 0, 0, 0, 0, 0, 24⟩]
def thru : List Row := [⟨12, 0, 0, 0, 0, 0, 0, 0⟩, ⟨4, 0, 0, 0, 0, 0, 0, 16⟩, ⟨13, 0, 0, 0, 0, 0, 0, 0⟩, ⟨5, 0, 0, 0, 0, 0, 0, 16⟩, ⟨14, 0, 0, 0, 0, 0, 0, 17⟩, ⟨6, 0, 0, 0, 0, 0, 0, 19⟩, ⟨14, 0, 0, 0, 0, 0, 0, 18⟩, ⟨6, 0, 0, 0, 0, 0, 0, 20⟩]
def byteP (y z : Int) : Row := if z = 7 then ⟨0, 0, 0, 0, 0, 0, 0, 29⟩ else if z = 6 ∧ y = 6 then ⟨3, 19, 0, 0, 0, 0, 0, 0⟩ else if z = 6 then ⟨3, 0, 0, 0, 0, 0, 0, 15⟩ else if y = 6 then ⟨6, 20, 0, 0, 0, 0, 0, 30⟩ else ⟨0, 0, 0, 0, 0, 0, 0, 30⟩
def noRow : Row := ⟨0, 0, 0, 0, 0, 0, 0, 0⟩
def lowP (y z : Int) : Row := if z = 0 then low0.getD y.toNat noRow else if z = 1 then low1.getD (y % 2).toNat noRow else if z = 2 then thru.getD y.toNat noRow else if z = 3 then low3.getD (y % 2).toNat noRow else byteP y z
def moveP (y z : Int) : Row := if y = 6 ∧ z = 6 then ⟨0, 0, 0, 0, 0, 0, 0, 1⟩ else if y = 6 then ⟨18, 0, 0, 0, 0, 0, 0, 0⟩ else if z = 6 then ⟨6, 0, 0, 0, 0, 0, 0, 15⟩ else ⟨0, 0, 0, 0, 0, 0, 0, 15⟩
def sumP (z : Int) : Row := if z = 6 then ⟨6, 0, 0, 0, 0, 0, 0, 28⟩ else ⟨0, 0, 0, 0, 0, 0, 0, 28⟩
def high0 : List Row := [⟨1, 10, 11, 1, 0, 0, 1, 11⟩, ⟨1, 10, 11, 1, 0, 0, 1, 11⟩, ⟨1, 10, 11, 1, 0, 0, 1, 11⟩, ⟨1, 10, 11, 1, 0, 0, 1, 11⟩, ⟨3, 15, 0, 0, 0, 0, 0, 0⟩, ⟨3, 1, 1, 0, 0, 0, 0, 26⟩, ⟨3, 7, 0, 0, 0, 0, 0, 16⟩, ⟨3, 1, 0, 0, 0, 0, 0, 27⟩]
def high1 : List Row := [⟨10, 11, 0, 0, 0, 0, 0, 14⟩, ⟨10, 11, 1, 0, 0, 0, 0, 11⟩, ⟨10, 11, 0, 0, 0, 0, 0, 14⟩, ⟨10, 11, 1, 0, 0, 0, 0, 12⟩, ⟨10, 11, 0, 0, 0, 0, 0, 14⟩, ⟨0, 0, 0, 0, 0, 0, 0, 7⟩, ⟨10, 11, 0, 0, 0, 0, 0, 14⟩, ⟨1, 0, 0, 0, 0, 0, 0, 22⟩]
def high2 : List Row := [⟨3, 3, 1, 0, 0, 0, 2, 6⟩, ⟨3, 3, 1, 0, 0, 0, 2, 6⟩, ⟨3, 3, 1, 0, 0, 0, 2, 6⟩, ⟨3, 3, 1, 0, 0, 0, 2, 6⟩, ⟨16, 0, 0, 0, 0, 0, 0, 0⟩, ⟨3, 3, 17, 0, 0, 0, 0, 0⟩, ⟨8, 0, 0, 0, 0, 0, 0, 16⟩, ⟨3, 3, 9, 0, 0, 0, 0, 16⟩]
def high3 : List Row := [⟨3, 3, 1, 0, 0, 0, 0, 6⟩, ⟨3, 0, 0, 0, 0, 0, 0, 0⟩, ⟨0, 0, 0, 0, 0, 0, 0, 3⟩, ⟨0, 0, 0, 0, 0, 0, 0, 3⟩, ⟨0, 0, 0, 0, 0, 0, 0, 3⟩, ⟨0, 0, 0, 0, 0, 0, 0, 3⟩, ⟨0, 0, 0, 0, 0, 0, 0, 5⟩, ⟨0, 0, 0, 0, 0, 0, 0, 4⟩]
def callP (y z : Int) : Row := if z = 6 then ⟨3, 0, 0, 0, 0, 0, 0, 28⟩ else if z = 7 then ⟨1, 26, 27, 0, 0, 0, 0, 10⟩ else if z = 4 ∧ y < 4 then ⟨3, 3, 1, 26, 27, 0, 2, 9⟩ else if z = 5 ∧ y % 2 = 0 then ⟨1, 24, 25, 0, 0, 0, 0, 13⟩ else if z = 5 ∧ y = 1 then ⟨3, 3, 1, 26, 27, 0, 0, 9⟩ else ⟨0, 0, 0, 0, 0, 0, 0, 3⟩
def highP (y z : Int) : Row := if z = 0 then high0.getD y.toNat noRow else if z = 1 then high1.getD y.toNat noRow else if z = 2 then high2.getD y.toNat noRow else if z = 3 then high3.getD y.toNat noRow else callP y z
def codeRow (c : Int) : Row := if c / 64 = 0 then lowP (c / 8 % 8) (c % 8) else if c / 64 = 1 then moveP (c / 8 % 8) (c % 8) else if c / 64 = 2 then sumP (c % 8) else highP (c / 8 % 8) (c % 8)
def St.row (s : St) : Row := if s.phase = 2 then dispRow else if s.code = 203 ∧ 0 < s.many then secondP (s.rd 0) else codeRow s.code
/-- where a cycle reads and writes, and what it writes -/
def St.behindFirst (s : St) : Int := if s.twice then s.pc else (s.pc + 1) % 65536
def St.behind (s : St) : Int := if s.phase = 2 then s.pc else (s.behindFirst + s.row.further) % 65536
def St.at (s : St) (k : Nat) : Int :=
  if k = 2 then s.pc else if k = 3 then (s.behindFirst + s.done) % 65536 else if k = 4 ∨ k = 12 then s.pair 0 else if k = 5 ∨ k = 13 then s.pair 1
  else if k = 6 ∨ k = 14 ∨ k = 18 ∨ k = 19 ∨ k = 20 ∨ k = 21 then s.pair 2 else if k = 7 ∨ k = 15 then 65280 + s.rd 0 else if k = 8 ∨ k = 16 then 65280 + s.r 1
  else if k = 9 ∨ k = 17 ∨ k = 22 then s.word else if k = 10 then s.sp else if k = 11 then (s.sp + 1) % 65536 else if k = 23 then (s.word + 1) % 65536
  else if k = 24 ∨ k = 26 then (s.sp - 1) % 65536 else if k = 25 ∨ k = 27 ∨ k = 28 then (s.sp - 2) % 65536 else 0
def St.data (s : St) (k : Nat) : Int :=
  if k = 12 ∨ k = 13 ∨ k = 14 ∨ k = 15 ∨ k = 16 ∨ k = 17 then s.r 7 else if k = 18 then s.source else if k = 19 then s.latest else if k = 20 then s.steppedR else if k = 21 then s.alteredR
  else if k = 22 then s.sp % 256 else if k = 23 then s.sp / 256 else if k = 24 then s.pushed s.p / 256 else if k = 25 then s.pushed s.p % 256
  else if k = 26 then s.behind / 256 else if k = 27 ∨ k = 28 then s.behind % 256 else 0
def wantsK (k : Nat) : Int := if 12 ≤ k then 2 else if 2 ≤ k then 1 else 0
def St.next (s : St) : Nat := if s.state ≠ 0 then 1 else if s.phase = 0 then 2 else s.row.act s.done
/-- what instructions do -/
def handP (a : Int) : Int := if a = 0 then 0 else if a = 1 then 64 else if a = 2 then 72 else if a = 4 then 80 else if a = 8 then 88 else 96
def lowBit (l : Int) : Int := if l % 2 = 1 then 1 else if l / 2 % 2 = 1 then 2 else if l / 4 % 2 = 1 then 4 else if l / 8 % 2 = 1 then 8 else if l / 16 % 2 = 1 then 16 else 0
def zf : Nat → Int := fun _ => 0
def St.rest (s : St) : St := { s with phase := 0, code := 0, done := 0, rd := zf, many := 0, asked := 0 }
def St.disp (s : St) : St := { s with phase := 2, code := 0, done := 0, rd := zf, many := 0, asked := 0 }
def St.begun (s : St) (c : Int) : St := { s with phase := 1, code := c, done := 0, rd := zf, many := 0, asked := 0 }
def St.spUp (s : St) : St := { s with sp := (s.sp + 2) % 65536 }
def St.spDown (s : St) : St := { s with sp := (s.sp - 2) % 65536 }
def St.go (s : St) (a : Int) : St := { s with pc := a }
def St.hlAdd (s : St) (d : Int) : St := s.setPair 2 ((s.pair 2 + d) % 65536)
def St.ei (s : St) : St := if s.ime then s else { s with due := true }
def doP (d : Nat) (s : St) : St :=
  if d = 1 then { s with state := 1 } else if d = 2 then { s with state := 2 } else if d = 3 then { s with state := 3 } else if d = 4 then s.ei
  else if d = 5 then { s with ime := false, due := false } else if d = 6 then s.go s.word else if d = 7 then s.go (s.pair 2)
  else if d = 8 then s.go ((s.pc + s.latest - (if 127 < s.latest then 256 else 0)) % 65536) else if d = 9 then s.spDown.go s.word else if d = 10 then s.spDown.go (8 * s.y)
  else if d = 11 then s.spUp.go s.word else if d = 12 then { s.spUp.go s.word with ime := true } else if d = 13 then s.spDown
  else if d = 14 then s.spUp.setPushed s.p s.word else if d = 15 then s.setByte s.y s.source else if d = 16 then s.setReg 7 s.latest
  else if d = 17 then s.hlAdd 1 else if d = 18 then s.hlAdd (-1) else if d = 19 then (s.setReg 7 s.latest).hlAdd 1 else if d = 20 then (s.setReg 7 s.latest).hlAdd (-1)
  else if d = 21 then s.setPair s.p s.word else if d = 22 then { s with sp := s.pair 2 } else if d = 23 then s.setPair s.p ((s.pair s.p + 1) % 65536)
  else if d = 24 then s.setPair s.p ((s.pair s.p - 1) % 65536) else if d = 25 then (s.setPair 2 (awR (s.pair 2) (s.pair s.p))).setReg 6 (awF (s.pair 2) (s.pair s.p) (s.r 6))
  else if d = 26 then { s with sp := ofR s.sp s.latest, r := upd s.r 6 (ofF s.sp s.latest) } else if d = 27 then (s.setPair 2 (ofR s.sp s.latest)).setReg 6 (ofF s.sp s.latest)
  else if d = 28 then { s with r := upd (upd s.r 7 (arR s.y (s.r 7) s.source (s.r 6))) 6 (arF s.y (s.r 7) s.source (s.r 6)) }
  else if d = 29 then { s with r := upd (upd s.r 7 (tuR s.y (s.r 7) (s.r 6))) 6 (tuF s.y (s.r 7) (s.r 6)) }
  else if d = 30 then (s.setByte s.y s.steppedR).setReg 6 s.steppedF else if d = 31 then (s.setByte (s.rd 0 % 8) s.alteredR).setReg 6 s.alteredF
  else if d = 32 then { s.rest with pc := handP s.asked, sp := (s.sp - 2) % 65536, ime := false } else s
/-- cycles -/
def St.act (s : St) (data lines : Int) : St :=
  if s.next = 2 then s.begun data
  else if s.next = 28 then { s with asked := lowBit lines, done := s.done + 1 }
  else if 2 ≤ s.next ∧ s.next < 12 then { s with rd := upd s.rd s.many.toNat data, many := s.many + 1, done := s.done + 1 }
  else { s with done := s.done + 1 }
def St.takes (s : St) (r : Row) : Bool := r.sure == 0 || s.holds
def St.over (s : St) (r : Row) : Bool := r.act s.done == 0 || (s.done == r.sure && !s.takes r)
def St.look (s : St) (lines : Int) : St :=
  if lines = 0 ∨ s.state = 3 then s else if s.ime then { s.disp with state := 0 } else { s with state := 0 }
def St.does (s : St) (r : Row) : St := if s.takes r then doP r.d s else s
def St.dues (s : St) (ahead : Bool) : St := if ahead && s.due then { s with ime := true, due := false } else s
def St.twices (s : St) (lines : Int) : St := { s.rest with twice := s.state == 1 && lines != 0 && !s.ime }
def St.finish (s : St) (r : Row) (lines : Int) : St :=
  ((((s.go ((s.behindFirst + r.further) % 65536)).does r).dues s.due).twices lines).look lines
def St.tick1 (s : St) (lines : Int) : St × Int :=
  if s.over s.row then (if s.phase = 2 then doP s.row.d s else s.finish s.row lines, s.asked) else (s, 0)
def St.tick (s : St) (data lines : Int) : St × Int :=
  if s.state ≠ 0 then (s.look (lines % 32), 0) else (s.act (data % 256) (lines % 32)).tick1 (lines % 32)
end Go.Proofs.YtdkibohpdkdooaaGreatDoor
