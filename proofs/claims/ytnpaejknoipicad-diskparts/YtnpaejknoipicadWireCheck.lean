/-
  Contracts: wire.Check, and the document's CheckPacket.
-/
import Derived.Test.YtnpaejknoipicadRows
import Derived.WalkKit
import Derived.WalkSpells
import Derived.WalkLawsBesides
import Derived.Handy
import Derived.Test.YtnpaejknoipicadWirePlain
import Derived.Test.YtnpaejknoipicadRefBetween
namespace Go.Proofs.Ytnpaejknoipicad
open Go.RowKit

end Go.Proofs.Ytnpaejknoipicad
