/- The tables of opcodes as plain data: rows of words, rules, what an opcode is. No condition. -/
import Derived.Lib.Replace
import Derived.Lib.Index
namespace Go.Proofs.YtmboogkpbcjfoaaDoor
def rowR : List (List UInt8) := [[98], [99], [100], [101], [104], [108], [91, 104, 108, 93], [97]]
def rowRP : List (List UInt8) := [[98, 99], [100, 101], [104, 108], [115, 112]]
def rowRQ : List (List UInt8) := [[98, 99], [100, 101], [104, 108], [97, 102]]
def rowCC : List (List UInt8) := [[110, 122], [122], [110, 99], [99]]
def rowALU : List (List UInt8) := [[97, 100, 100], [97, 100, 99], [115, 117, 98], [115, 98, 99], [97, 110, 100], [120, 111, 114], [111, 114], [99, 112]]
def rowROT : List (List UInt8) := [[114, 108, 99], [114, 114, 99], [114, 108], [114, 114], [115, 108, 97], [115, 114, 97], [115, 119, 97, 112], [115, 114, 108]]
def rowACC : List (List UInt8) := [[114, 108, 99, 97], [114, 114, 99, 97], [114, 108, 97], [114, 114, 97], [100, 97, 97], [99, 112, 108], [115, 99, 102], [99, 99, 102]]
def rowM : List (List UInt8) := [[91, 98, 99, 93], [91, 100, 101, 93], [91, 104, 108, 43, 93], [91, 104, 108, 45, 93]]
/-- a rule of the tables -/
structure Rule where
  z : Int
  ys : Nat
  text : List UInt8
  bytes : Int
  cycles : Int
  taken : Int
  more : Int
def rules0 : List Rule := [⟨0, 1, [110, 111, 112], 1, 4, 4, 0⟩,
  ⟨0, 2, [108, 100, 32, 91, 87, 93, 44, 32, 115, 112], 3, 20, 20, 0⟩,
  ⟨0, 4, [115, 116, 111, 112], 2, 8, 8, 0⟩,
  ⟨0, 8, [106, 114, 32, 69], 2, 12, 12, 0⟩,
  ⟨0, 240, [106, 114, 32, 67, 44, 32, 69], 2, 8, 12, 0⟩,
  ⟨1, 85, [108, 100, 32, 80, 44, 32, 87], 3, 12, 12, 0⟩,
  ⟨1, 170, [97, 100, 100, 32, 104, 108, 44, 32, 80], 1, 8, 8, 0⟩,
  ⟨2, 85, [108, 100, 32, 77, 44, 32, 97], 1, 8, 8, 0⟩,
  ⟨2, 170, [108, 100, 32, 97, 44, 32, 77], 1, 8, 8, 0⟩,
  ⟨3, 85, [105, 110, 99, 32, 80], 1, 8, 8, 0⟩,
  ⟨3, 170, [100, 101, 99, 32, 80], 1, 8, 8, 0⟩,
  ⟨4, 255, [105, 110, 99, 32, 82], 1, 4, 4, 8⟩,
  ⟨5, 255, [100, 101, 99, 32, 82], 1, 4, 4, 8⟩,
  ⟨6, 255, [108, 100, 32, 82, 44, 32, 78], 2, 8, 8, 4⟩,
  ⟨7, 255, [85], 1, 4, 4, 0⟩]
def rules1 : List Rule := [⟨6, 64, [104, 97, 108, 116], 1, 4, 4, 0⟩,
  ⟨-1, 255, [108, 100, 32, 82, 44, 32, 90], 1, 4, 4, 4⟩]
def rules2 : List Rule := [⟨-1, 255, [65, 32, 97, 44, 32, 90], 1, 4, 4, 4⟩]
def rules3 : List Rule := [⟨0, 15, [114, 101, 116, 32, 67], 1, 8, 20, 0⟩,
  ⟨0, 16, [108, 100, 104, 32, 91, 72, 93, 44, 32, 97], 2, 12, 12, 0⟩,
  ⟨0, 32, [97, 100, 100, 32, 115, 112, 44, 32, 83], 2, 16, 16, 0⟩,
  ⟨0, 64, [108, 100, 104, 32, 97, 44, 32, 91, 72, 93], 2, 12, 12, 0⟩,
  ⟨0, 128, [108, 100, 32, 104, 108, 44, 32, 115, 112, 43, 83], 2, 12, 12, 0⟩,
  ⟨1, 85, [112, 111, 112, 32, 81], 1, 12, 12, 0⟩,
  ⟨1, 2, [114, 101, 116], 1, 16, 16, 0⟩,
  ⟨1, 8, [114, 101, 116, 105], 1, 16, 16, 0⟩,
  ⟨1, 32, [106, 112, 32, 104, 108], 1, 4, 4, 0⟩,
  ⟨1, 128, [108, 100, 32, 115, 112, 44, 32, 104, 108], 1, 8, 8, 0⟩,
  ⟨2, 15, [106, 112, 32, 67, 44, 32, 87], 3, 12, 16, 0⟩,
  ⟨2, 16, [108, 100, 104, 32, 91, 99, 93, 44, 32, 97], 1, 8, 8, 0⟩,
  ⟨2, 32, [108, 100, 32, 91, 87, 93, 44, 32, 97], 3, 16, 16, 0⟩,
  ⟨2, 64, [108, 100, 104, 32, 97, 44, 32, 91, 99, 93], 1, 8, 8, 0⟩,
  ⟨2, 128, [108, 100, 32, 97, 44, 32, 91, 87, 93], 3, 16, 16, 0⟩,
  ⟨3, 1, [106, 112, 32, 87], 3, 16, 16, 0⟩,
  ⟨3, 64, [100, 105], 1, 4, 4, 0⟩,
  ⟨3, 128, [101, 105], 1, 4, 4, 0⟩,
  ⟨4, 15, [99, 97, 108, 108, 32, 67, 44, 32, 87], 3, 12, 24, 0⟩,
  ⟨5, 85, [112, 117, 115, 104, 32, 81], 1, 16, 16, 0⟩,
  ⟨5, 2, [99, 97, 108, 108, 32, 87], 3, 24, 24, 0⟩,
  ⟨6, 255, [65, 32, 97, 44, 32, 78], 2, 8, 8, 0⟩,
  ⟨7, 255, [114, 115, 116, 32, 86], 1, 16, 16, 0⟩]
def sec0 : List Rule := [⟨-1, 255, [84, 32, 90], 2, 8, 8, 8⟩]
def sec1 : List Rule := [⟨-1, 255, [98, 105, 116, 32, 66, 44, 32, 90], 2, 8, 8, 4⟩]
def sec2 : List Rule := [⟨-1, 255, [114, 101, 115, 32, 66, 44, 32, 90], 2, 8, 8, 8⟩]
def sec3 : List Rule := [⟨-1, 255, [115, 101, 116, 32, 66, 44, 32, 90], 2, 8, 8, 8⟩]
/-- the rules of the opcodes from 64 x on -/
def rulesOf (x : Nat) (second : Bool) : List Rule :=
  if second then (if x = 0 then sec0 else if x = 1 then sec1 else if x = 2 then sec2 else sec3)
  else if x = 0 then rules0 else if x = 1 then rules1 else if x = 2 then rules2 else rules3
/-- the kind of number for which a letter stands -/
def argL (c : Nat) : Nat :=
  if c = 78 then 1 else if c = 83 then 2 else if c = 69 then 3 else if c = 87 then 4 else if c = 72 then 5 else if c = 86 then 6 else if c = 66 then 7 else 0
/-- the word for which a letter stands -/
def wordL (c y z : Nat) : List UInt8 :=
  if c = 82 then rowR.getD y [] else if c = 90 then rowR.getD z [] else if c = 80 then rowRP.getD (y / 2) [] else if c = 81 then rowRQ.getD (y / 2) []
  else if c = 77 then rowM.getD (y / 2) [] else if c = 67 then rowCC.getD (y % 4) [] else if c = 65 then rowALU.getD y [] else if c = 84 then rowROT.getD y []
  else if c = 85 then rowACC.getD y [] else [UInt8.ofNat c]
/-- what a letter of a rule's text becomes -/
def fillC (y z : Nat) (c : UInt8) : List UInt8 := if argL c.toNat = 0 then wordL c.toNat y z else wordL 35 y z
def fillT (y z : Nat) (t : List UInt8) : List UInt8 := t.flatMap (fillC y z)
/-- the kind of number of a rule's text -/
def fillA : List UInt8 → Nat → Nat
  | [], a => a
  | c :: r, a => fillA r (if argL c.toNat = 0 then a else argL c.toNat)
/-- what the tables say of an opcode -/
structure Opc where
  text : List UInt8
  arg : Nat
  y : Nat
  bytes : Int
  cycles : Int
  taken : Int
def hlW : List UInt8 := [91, 104, 108, 93]
def opcOf (r : Rule) (y z : Nat) : Opc :=
  if Lib.contains (fillT y z r.text) hlW then ⟨fillT y z r.text, fillA r.text 0, y, r.bytes, r.cycles + r.more, r.taken + r.more⟩
  else ⟨fillT y z r.text, fillA r.text 0, y, r.bytes, r.cycles, r.taken⟩
/-- does a rule speak of y and z -/
def fits (y z : Nat) (r : Rule) : Bool := (r.z == (z : Int) || r.z == -1) && r.ys / 2 ^ y % 2 == 1
def lookL (code : Nat) (second : Bool) : Option Opc :=
  ((rulesOf (code / 64) second).find? (fits (code / 8 % 8) (code % 8))).map fun r => opcOf r (code / 8 % 8) (code % 8)
/-- a digit to the base 16 -/
def hexD (n : Nat) : UInt8 := if n < 10 then UInt8.ofNat (48 + n) else UInt8.ofNat (87 + n)
/-- the last k digits of v to the base 16 -/
def hexDs (v : Int) : Nat → List UInt8
  | 0 => []
  | k + 1 => hexD (v / 16 ^ k % 16).toNat :: hexDs v k
def hexL (v : Int) (k : Nat) : List UInt8 := 36 :: hexDs v k
/-- how an opcode's text without values writes its number -/
def letterL (o : Opc) : List UInt8 :=
  if o.arg = 1 ∨ o.arg = 5 then [110] else if o.arg = 2 then [115] else if o.arg = 3 then [101] else if o.arg = 4 then [119]
  else if o.arg = 6 then hexL (o.y * 8) 2 else [UInt8.ofNat (48 + o.y)]
def withL (o : Opc) (n : List UInt8) : List UInt8 := Lib.replace o.text [35] n 1
def infoT (code : Nat) (second : Bool) : Option (List UInt8) := (lookL code second).map fun o => withL o (letterL o)
end Go.Proofs.YtmboogkpbcjfoaaDoor
