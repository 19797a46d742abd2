/-
  Contract: wire.sumOf of three flags.
-/
import Derived.Test.YtnpaejknoipicadWireCheck
import Derived.Test.YtnpaejknoipicadSlices
import Derived.Test.YtnpaejknoipicadGrow
namespace Go.Proofs.Ytnpaejknoipicad
open Go.RowKit

def Pk.flags (f e k : Bool) : Int := (if f then 1 else 0) + (if e then 2 else 0) + (if k then 4 else 0)

theorem Try.infoU8 : (Try.prog.info? 5).map (fun i => (i.zero, i.size, i.bytes)) = some (some (.int .u8 0), 1, 1) := by kernel_rfl

end Go.Proofs.Ytnpaejknoipicad
