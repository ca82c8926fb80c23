import Derived.Test.YtmndgoapkmhglaaM02ParA
namespace Go.Proofs.Ytmndgoapkmhglaa
open Go.RowKit

def bCells (l : List UInt8) : List Value := l.map fun b => Value.int .u8 b.toNat
theorem bCells_app (l m : List UInt8) : bCells (l ++ m) = bCells l ++ bCells m := by simp [bCells]
theorem size_mk (l : List UInt8) : (ByteArray.mk l.toArray).size = l.length := by simp [ByteArray.size]

theorem Try.infoU8 : (Try.prog.info? 5).map (fun i => (i.zero, i.size, i.bytes)) = some (some (.int .u8 0), 1, 1) := by kernel_rfl

end Go.Proofs.Ytmndgoapkmhglaa
