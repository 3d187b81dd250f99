/- The contract of the library that the program calls (utf8.AppendRune), laid at this program: the numbers of its functions and types against those of the contract. -/
import Derived.Test.YtdakgnaojakldaaGreatDoorProg
import Derived.Shelf.Utf8.AppendRunePlain
namespace Go.Proofs.YtdakgnaojakldaaGreatDoor
open Go.Shelf
def Tryz.lays242_ren : Go.Shelf.Ren := ⟨fun | 242 => 229 | 278 => 250 | n => n, fun | 37 => 256 | 21 => 21 | 51 => 398 | 4 => 4 | 5 => 5 | 46 => 321 | n => n, fun | n => n⟩
theorem Tryz.lays242 : Go.Proofs.Lays.n242 Tryz.prog Tryz.lays242_ren := {
  mixed := by kernel_rfl
  f242 := Tryz.func229.trans (congrArg some (by kernel_rfl))
  f278 := Tryz.func250.trans (congrArg some (by kernel_rfl))
  t4 := Tryz.underlying4
  a4 := Tryz.isAgg4
  z4 := Tryz.sizeOf4
  v4 := Tryz.zeroValue4
  t5 := Tryz.underlying5
  a5 := Tryz.isAgg5
  z5 := Tryz.sizeOf5
  v5 := Tryz.zeroValue5
  t21 := Tryz.underlying21
  a21 := Tryz.isAgg21
  z21 := Tryz.sizeOf21
  v21 := Tryz.zeroValue21
  t37 := Tryz.underlying256
  a37 := Tryz.isAgg256
  z37 := Tryz.sizeOf256
  v37 := Tryz.zeroValue256
  t46 := Tryz.underlying321
  a46 := Tryz.isAgg321
  z46 := Tryz.sizeOf321
  v46 := Tryz.zeroValue321
  t51 := Tryz.underlying398
  a51 := Tryz.isAgg398
  z51 := Tryz.sizeOf398
  v51 := Tryz.zeroValue398 }
end Go.Proofs.YtdakgnaojakldaaGreatDoor
