/-
  Contract: the document's GrowOf.
-/
import Derived.Test.YtnpaejknoipicagNestApp
import Derived.Test.YtnpaejknoipicagGroupPlain
import Derived.Test.YtnpaejknoipicagRegApp3
import Derived.Test.YtnpaejknoipicagQuietSkip
import Derived.Test.YtnpaejknoipicagRegChain
namespace Go.Proofs.Ytnpaejknoipicag
open Go.RowKit

theorem Blk.drewN {w : World} {b : Nat} {C : Array Value} {t : TypeId} (h : Blk w b C t) (k : Nat) : Blk (w.drewN k) b C t := h

theorem FrsIn.one {S : Nat → Prop} {w : World} {b : Nat} {f : Fr} {pv : Value} (hb : Blk w b #[.int .i64 f.time, .bool f.key, pv] 67) (hS : S b) (hp : StrsIn S w pv f.parts) : FrsIn S w (.slice (some ⟨b, 0, none⟩) 1 1) [f] := by
  refine ⟨some ⟨b, 0, none⟩, 1, rfl, Nat.le_refl _, by omega, fun k hk => ⟨b, 0, rfl, hb.lt, hS, pv, ?_⟩⟩
  have : k = 0 := by simpa using hk
  subst this
  obtain ⟨c0, c1, c2⟩ := hb.three
  exact ⟨c0, c1, c2, hp⟩

end Go.Proofs.Ytnpaejknoipicag
