/-
  Contract: the document's 'between'.
-/
import Derived.Test.YtnpaejknoipicadRows
import Derived.WalkKit
import Derived.WalkSpells
import Derived.WalkLawsBesides
namespace Go.Proofs.Ytnpaejknoipicad
open Go.RowKit

def Cn.betB (n lo hi : Int) : Bool := decide (lo ≤ n) && decide (n ≤ hi)

set_option maxHeartbeats 400000 in
theorem between_any (n lo hi : Int) (w : World) :
    Calls Try.prog 52 #[.int .i64 n, .int .i64 lo, .int .i64 hi] w fun e w' => e = .returned (.bool (Cn.betB n lo hi)) ∧ w = w' := by
  by_cases h1 : lo ≤ n
  · have e : Cn.betB n lo hi = decide (n ≤ hi) := by simp [Cn.betB, h1]
    rw [e]; clear e
    go_enter Try.func52, Try.ntmps52
    go_wp2
    go_ret
    exact ⟨rfl, rfl⟩
  · have e : Cn.betB n lo hi = false := by simp [Cn.betB, h1]
    rw [e]; clear e
    go_enter Try.func52, Try.ntmps52
    go_wp2
    go_ret
    exact ⟨rfl, rfl⟩

end Go.Proofs.Ytnpaejknoipicad
