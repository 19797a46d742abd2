/-
  Contracts: wire.Check, and the document's CheckPacket.
-/
import Derived.Test.YtgmnhbmjnllhhadRows
import Derived.WalkKit
import Derived.WalkSpells
import Derived.WalkLawsBesides
import Derived.Handy
import Derived.Test.YtgmnhbmjnllhhadWirePlain
import Derived.Test.YtgmnhbmjnllhhadRefBetween
namespace Go.Proofs.Ytgmnhbmjnllhhad
open Go.RowKit

end Go.Proofs.Ytgmnhbmjnllhhad
