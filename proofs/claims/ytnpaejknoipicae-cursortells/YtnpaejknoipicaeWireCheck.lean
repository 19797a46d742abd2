/-
  Contracts: wire.Check, and the document's CheckPacket.
-/
import Derived.Test.YtnpaejknoipicaeRows
import Derived.WalkKit
import Derived.WalkSpells
import Derived.WalkLawsBesides
import Derived.Handy
import Derived.Test.YtnpaejknoipicaeWirePlain
import Derived.Test.YtnpaejknoipicaeRefBetween
namespace Go.Proofs.Ytnpaejknoipicae
open Go.RowKit

end Go.Proofs.Ytnpaejknoipicae
