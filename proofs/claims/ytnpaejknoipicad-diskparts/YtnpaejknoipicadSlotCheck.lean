/-
  Contracts: slot.Check, and the document's CheckSlot.
-/
import Derived.Test.YtnpaejknoipicadSlotPlain
import Derived.Test.YtnpaejknoipicadWireCheck
import Derived.Test.YtnpaejknoipicadCountWalk
import Derived.Test.YtnpaejknoipicadSlices
import Derived.Handy
namespace Go.Proofs.Ytnpaejknoipicad
open Go.RowKit

end Go.Proofs.Ytnpaejknoipicad
