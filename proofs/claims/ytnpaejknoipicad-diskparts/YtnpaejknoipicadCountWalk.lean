/-
  Contracts of package count's calls.
-/
import Derived.Test.YtnpaejknoipicadRows
import Derived.WalkKit
import Derived.WalkSpells
import Derived.WalkLawsBesides
import Derived.Test.YtnpaejknoipicadCountPlain
namespace Go.Proofs.Ytnpaejknoipicad
open Go.RowKit

theorem ret2_int {k l : IntKind} {a b c d : Int} (h : a = b) (g : c = d) : Ending.returned (.tuple #[.int k a, .int l c]) = .returned (.tuple #[.int k b, .int l d]) := by rw [h, g]

end Go.Proofs.Ytnpaejknoipicad
