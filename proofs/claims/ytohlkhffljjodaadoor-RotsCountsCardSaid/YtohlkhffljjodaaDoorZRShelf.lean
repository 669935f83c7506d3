/- Contracts of the library, laid at this program. -/
import Derived.Test.YtohlkhffljjodaaDoorProg
import Derived.Ground.SlbSplitProg
import Derived.Ground.SlbNamesProg
import Derived.Shelf.Bytes.SlSplit
import Derived.Shelf.Bytes.SlSplitNil
import Derived.Shelf.Bytes.SlCountOne
namespace Go.Proofs
open Go.Shelf
def Tryd.lays7_ren : Go.Shelf.Ren := ⟨fun | 7 => 45 | 11 => 55 | 14 => 66 | 15 => 36 | 16 => 52 | 17 => 76 | 19 => 50 | 20 => 51 | 21 => 60 | 22 => 61 | 23 => 62 | 24 => 63 | 25 => 64 | 26 => 82 | 29 => 59 | 30 => 70 | 31 => 71 | n => n, fun | 22 => 22 | 23 => 75 | 3 => 3 | 4 => 4 | 0 => 0 | 34 => 107 | 21 => 21 | 5 => 5 | 45 => 86 | 9 => 9 | 58 => 97 | 38 => 96 | 28 => 115 | 62 => 118 | 61 => 117 | n => n, fun | 2 => 0 | 3 => 2 | 4 => 3 | n => n⟩
theorem Tryd.lays7 : Go.Proofs.SlLaysP.n7 Tryd.prog Tryd.lays7_ren := {
  mixed := by kernel_rfl
  f7 := Tryd.func45.trans (congrArg some (by kernel_rfl))
  f11 := Tryd.func55.trans (congrArg some (by kernel_rfl))
  f15 := Tryd.func36.trans (congrArg some (by kernel_rfl))
  f16 := Tryd.func52.trans (congrArg some (by kernel_rfl))
  f20 := Tryd.func51.trans (congrArg some (by kernel_rfl))
  f21 := Tryd.func60.trans (congrArg some (by kernel_rfl))
  f22 := Tryd.func61.trans (congrArg some (by kernel_rfl))
  f23 := Tryd.func62.trans (congrArg some (by kernel_rfl))
  f24 := Tryd.func63.trans (congrArg some (by kernel_rfl))
  f25 := Tryd.func64.trans (congrArg some (by kernel_rfl))
  f30 := Tryd.func70.trans (congrArg some (by kernel_rfl))
  f31 := Tryd.func71.trans (congrArg some (by kernel_rfl))
  t0 := Tryd.underlying0
  a0 := Tryd.isAgg0
  z0 := Tryd.sizeOf0
  v0 := Tryd.zeroValue0
  t3 := Tryd.underlying3
  a3 := Tryd.isAgg3
  z3 := Tryd.sizeOf3
  v3 := Tryd.zeroValue3
  t4 := Tryd.underlying4
  a4 := Tryd.isAgg4
  z4 := Tryd.sizeOf4
  v4 := Tryd.zeroValue4
  t5 := Tryd.underlying5
  a5 := Tryd.isAgg5
  z5 := Tryd.sizeOf5
  v5 := Tryd.zeroValue5
  t9 := Tryd.underlying9
  a9 := Tryd.isAgg9
  z9 := Tryd.sizeOf9
  v9 := Tryd.zeroValue9
  t22 := Tryd.underlying22
  a22 := Tryd.isAgg22
  z22 := Tryd.sizeOf22
  v22 := Tryd.zeroValue22
  t23 := Tryd.underlying75
  a23 := Tryd.isAgg75
  z23 := Tryd.sizeOf75
  v23 := Tryd.zeroValue75
  t38 := Tryd.underlying96
  a38 := Tryd.isAgg96
  z38 := Tryd.sizeOf96
  v38 := Tryd.zeroValue96
  t45 := Tryd.underlying86
  a45 := Tryd.isAgg86
  z45 := Tryd.sizeOf86
  v45 := Tryd.zeroValue86
  t58 := Tryd.underlying97
  a58 := Tryd.isAgg97
  z58 := Tryd.sizeOf97
  v58 := Tryd.zeroValue97
  g2 := by kernel_rfl
  i22 := by kernel_rfl }
def Tryd.laysB13_ren : Go.Shelf.Ren := ⟨fun | 13 => 36 | 24 => 50 | 25 => 51 | 12 => 52 | 31 => 59 | 19 => 60 | 20 => 61 | 21 => 62 | 22 => 63 | 23 => 64 | 29 => 70 | 30 => 71 | n => n, fun | 22 => 22 | 3 => 3 | 4 => 4 | 0 => 0 | 5 => 5 | 9 => 9 | 33 => 86 | 40 => 97 | 39 => 96 | n => n, fun | 0 => 0 | n => n⟩
theorem Tryd.laysB13 : Go.Proofs.SlLaysB.n13 Tryd.prog Tryd.laysB13_ren := {
  mixed := by kernel_rfl
  f13 := Tryd.func36.trans (congrArg some (by kernel_rfl))
  f25 := Tryd.func51.trans (congrArg some (by kernel_rfl))
  t0 := Tryd.underlying0
  a0 := Tryd.isAgg0
  z0 := Tryd.sizeOf0
  v0 := Tryd.zeroValue0
  t3 := Tryd.underlying3
  a3 := Tryd.isAgg3
  z3 := Tryd.sizeOf3
  v3 := Tryd.zeroValue3
  t4 := Tryd.underlying4
  a4 := Tryd.isAgg4
  z4 := Tryd.sizeOf4
  v4 := Tryd.zeroValue4
  t5 := Tryd.underlying5
  a5 := Tryd.isAgg5
  z5 := Tryd.sizeOf5
  v5 := Tryd.zeroValue5
  t22 := Tryd.underlying22
  a22 := Tryd.isAgg22
  z22 := Tryd.sizeOf22
  v22 := Tryd.zeroValue22 }
end Go.Proofs
