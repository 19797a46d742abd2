/-
  Contract: the document's 'between'.
-/
import Derived.Test.YtnpaejknoipicagGreatRows
import Derived.WalkKit
import Derived.WalkSpells
import Derived.WalkLawsBesides
namespace Go.Proofs.YtnpaejknoipicagGreat
open Go.RowKit

def Cn.betB (n lo hi : Int) : Bool := decide (lo ≤ n) && decide (n ≤ hi)

set_option maxHeartbeats 400000 in
theorem between_any (n lo hi : Int) (w : World) :
    Calls Tryz.prog 44 #[.int .i64 n, .int .i64 lo, .int .i64 hi] w fun e w' => e = .returned (.bool (Cn.betB n lo hi)) ∧ w = w' := by
  by_cases h1 : lo ≤ n
  · have e : Cn.betB n lo hi = decide (n ≤ hi) := by simp [Cn.betB, h1]
    rw [e]; clear e
    go_enter Tryz.func44, Tryz.ntmps44
    go_wp2
    go_ret
    exact ⟨rfl, rfl⟩
  · have e : Cn.betB n lo hi = false := by simp [Cn.betB, h1]
    rw [e]; clear e
    go_enter Tryz.func44, Tryz.ntmps44
    go_wp2
    go_ret
    exact ⟨rfl, rfl⟩

end Go.Proofs.YtnpaejknoipicagGreat
