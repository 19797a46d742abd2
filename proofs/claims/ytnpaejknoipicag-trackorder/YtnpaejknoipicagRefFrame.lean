/-
  Contracts: the document's CheckFrame and SameFrame.
-/
import Derived.Test.YtnpaejknoipicagMaker2
namespace Go.Proofs.Ytnpaejknoipicag
open Go.RowKit

end Go.Proofs.Ytnpaejknoipicag
