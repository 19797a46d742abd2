/-
  Contracts: slot.Check, and the document's CheckSlot.
-/
import Derived.Test.YtnpaejknoipicaeSlotPlain
import Derived.Test.YtnpaejknoipicaeWireCheck
import Derived.Test.YtnpaejknoipicaeCountWalk
import Derived.Test.YtnpaejknoipicaeSlices
import Derived.Handy
namespace Go.Proofs.Ytnpaejknoipicae
open Go.RowKit

end Go.Proofs.Ytnpaejknoipicae
