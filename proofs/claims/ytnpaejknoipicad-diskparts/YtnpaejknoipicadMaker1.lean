/-
  Contracts: the maker's take.
-/
import Derived.Test.YtnpaejknoipicadFrameOf
import Derived.Test.YtnpaejknoipicadCopyMany
import Derived.Lib.QuietBelow
import Derived.Deep.QuietTactic
import Derived.BigQuiet
namespace Go.Proofs.Ytnpaejknoipicad
open Go.RowKit Go.Sort

/-- the last one of slots -/
def lastSk (l : List Sk) : Sk := l[l.length - 1]?.getD Sk.zero
/-- what is open behind a slot -/
def takeF (l : List Sk) (x : Sk) : List Sk := if x.p.f then [x] else if 0 < l.length ∧ folB (lastSk l) x = true then l ++ [x] else []

theorem Blk.one {w : World} {b : Nat} {t : TypeId} {x0 : Value} (h : Blk w b #[x0] t) : w.cell? ⟨b, 0, none⟩ = some x0 := h.cell rfl

end Go.Proofs.Ytnpaejknoipicad
