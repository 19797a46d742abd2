/-
  Contract: frame.frameOf.
-/
import Derived.Test.YtnpaejknoipicadFrameCheck
import Derived.Test.YtnpaejknoipicadRowAux
import Derived.BigQuiet
import Derived.Deep.LoopGhost
namespace Go.Proofs.Ytnpaejknoipicad
open Go.RowKit

theorem Try.infoStr : (Try.prog.info? 9).map (fun i => (i.zero, i.size, i.bytes)) = some (some (.string ⟨#[]⟩), 1, 16) := by kernel_rfl
def texts (l : List Sk) : List ByteArray := l.map fun x => x.p.t

end Go.Proofs.Ytnpaejknoipicad
