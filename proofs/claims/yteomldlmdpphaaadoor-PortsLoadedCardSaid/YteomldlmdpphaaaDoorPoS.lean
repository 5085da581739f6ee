/- slices.Delete at []byte: the library's contract, laid over the translation in plain words. -/
import Derived.Shelf.SlicesE.Delete
import Derived.Ground.SlgnProg
import Derived.Test.YteomldlmdpphaaaDoorProg
namespace Go.Proofs.YteomldlmdpphaaaDoor
open Go.Shelf
def delRen : Go.Shelf.Ren := ⟨fun | 45 => 71 | n => n, fun | 22 => 35 | 23 => 5 | 3 => 3 | 4 => 4 | 0 => 0 | n => n, fun | n => n⟩
theorem delB : Go.Proofs.SlLaysE.n45 Tryd.prog delRen := {
  mixed := by kernel_rfl
  f45 := ⟨Tryd.f71.name, by decide, Tryd.func71.trans (congrArg some (by kernel_rfl))⟩
  t0 := Tryd.underlying0
  a0 := Tryd.isAgg0
  z0 := Tryd.sizeOf0
  v0 := Tryd.zeroValue0
  t3 := Tryd.underlying3
  a3 := Tryd.isAgg3
  z3 := Tryd.sizeOf3
  v3 := Tryd.zeroValue3
  t4 := Tryd.underlying4
  a4 := Tryd.isAgg4
  z4 := Tryd.sizeOf4
  v4 := Tryd.zeroValue4
  t22 := Tryd.underlying35
  a22 := Tryd.isAgg35
  z22 := Tryd.sizeOf35
  v22 := Tryd.zeroValue35
  a23 := Tryd.isAgg5
  z23 := Tryd.sizeOf5 }
theorem delete_any (blk off cap i j : Nat) (d : Array Int) (w : World) (hH : Sort.Holds (Value.int .u8) w blk off d) (hcap : d.size ≤ cap) (hm : cap ≤ 9223372036854775807) (hij : i ≤ j) (hj : j ≤ d.size) :
    Calls Tryd.prog 71 #[.slice (some ⟨blk, off, none⟩) d.size cap, .int .i64 i, .int .i64 j] w fun e w' => e = .returned (.slice (some ⟨blk, off, none⟩) (d.size - (j - i)) cap) ∧ ∃ q, w' = Sort.putRow (Value.int .u8) (Sort.ahead w q) blk off (d.toList.take i ++ d.toList.drop j ++ List.replicate (j - i) 0).toArray :=
  Go.Proofs.AnyE.slices_Delete delB (Value.int .u8) (fun _ => rfl) 0 Tryd.zeroValue5 Tryd.t5 (by kernel_rfl) rfl blk off cap i j d w hH hcap hm hij hj
end Go.Proofs.YteomldlmdpphaaaDoor
