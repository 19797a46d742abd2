/-
  Contracts: slot.Check, and the document's CheckSlot.
-/
import Derived.Test.YtgmnhbmjnllhhadSlotPlain
import Derived.Test.YtgmnhbmjnllhhadWireCheck
import Derived.Test.YtgmnhbmjnllhhadCountWalk
import Derived.Test.YtgmnhbmjnllhhadSlices
import Derived.Handy
namespace Go.Proofs.Ytgmnhbmjnllhhad
open Go.RowKit

end Go.Proofs.Ytgmnhbmjnllhhad
