/- packByte, packRow. -/
import Derived.Test.YtljfiefobnncaaaWa
namespace Go.Proofs.Ytljfiefobnncaaa
open Go.RowKit



theorem infoByte : (Try.prog.info? 5).map (fun i => (i.zero, i.size, i.bytes)) = some (some (.int .u8 0), 1, 1) := by kernel_rfl
def cellsOf (l : List UInt8) : List Value := l.map fun b => .int .u8 b.toNat
theorem cellsOf_snoc (l : List UInt8) (b : UInt8) : cellsOf (l ++ [b]) = cellsOf l ++ [.int .u8 b.toNat] := by simp [cellsOf]
theorem hid {p : Prop} (h : p) : Hid p := h

end Go.Proofs.Ytljfiefobnncaaa