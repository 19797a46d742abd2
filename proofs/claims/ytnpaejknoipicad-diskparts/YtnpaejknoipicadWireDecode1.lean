/-
  Contract: what Decode's closure reads, where the bytes are there; that it panics where they are not.
-/
import Derived.Test.YtnpaejknoipicadWireClosure
namespace Go.Proofs.Ytnpaejknoipicad
open Go.RowKit

theorem num_one (l : List UInt8) : num (l.take 1) = (l[0]?.getD 0).toNat := by
  cases l with
  | nil => rfl
  | cons x r => simp [num]

end Go.Proofs.Ytnpaejknoipicad
