/-
  Contracts of package count's calls.
-/
import Derived.Test.YtnpaejknoipicaeRows
import Derived.WalkKit
import Derived.WalkSpells
import Derived.WalkLawsBesides
import Derived.Test.YtnpaejknoipicaeCountPlain
namespace Go.Proofs.Ytnpaejknoipicae
open Go.RowKit

theorem ret2_int {k l : IntKind} {a b c d : Int} (h : a = b) (g : c = d) : Ending.returned (.tuple #[.int k a, .int l c]) = .returned (.tuple #[.int k b, .int l d]) := by rw [h, g]

end Go.Proofs.Ytnpaejknoipicae
