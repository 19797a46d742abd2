/-
  Contracts: wire.Check, and the document's CheckPacket.
-/
import Derived.Test.YtnpaejknoipicafRows
import Derived.WalkKit
import Derived.WalkSpells
import Derived.WalkLawsBesides
import Derived.Handy
import Derived.Test.YtnpaejknoipicafWirePlain
import Derived.Test.YtnpaejknoipicafRefBetween
namespace Go.Proofs.Ytnpaejknoipicaf
open Go.RowKit

set_option maxHeartbeats 1000000 in
theorem check_any (p : Pk) (w : World) :
    Calls Try.prog 15 #[p.val] w fun e w' => e = .returned (.int .i64 p.chk) ∧ w' = w.alloc (.cells p.cells 38) := by
  obtain ⟨seq, time, f, e, k, t⟩ := p
  simp only [Pk.val, Pk.cells, Pk.chk]
  by_cases h1 : seq < 0
  · rw [if_pos h1]
    go_enter Try.func15, Try.ntmps15
    go_wp2
    go_ret
    exact ⟨rfl, rfl⟩
  rw [if_neg h1]
  by_cases h2 : 65535 < seq
  · rw [if_pos h2]
    go_enter Try.func15, Try.ntmps15
    go_wp2
    go_ret
    exact ⟨rfl, rfl⟩
  rw [if_neg h2]
  by_cases h3 : time < 0
  · rw [if_pos h3]
    go_enter Try.func15, Try.ntmps15
    go_wp2
    go_ret
    exact ⟨rfl, rfl⟩
  rw [if_neg h3]
  by_cases h4 : 1000000 < time
  · rw [if_pos h4]
    go_enter Try.func15, Try.ntmps15
    go_wp2
    go_ret
    exact ⟨rfl, rfl⟩
  rw [if_neg h4]
  by_cases h5 : 8 < (t.size : Int)
  · rw [if_pos h5]
    go_enter Try.func15, Try.ntmps15
    go_wp2
    go_ret
    exact ⟨rfl, rfl⟩
  rw [if_neg h5]
  cases k
  · go_enter Try.func15, Try.ntmps15
    go_wp2
    go_ret
    exact ⟨rfl, rfl⟩
  · cases f
    · go_enter Try.func15, Try.ntmps15
      go_wp2
      go_ret
      exact ⟨rfl, rfl⟩
    · go_enter Try.func15, Try.ntmps15
      go_wp2
      go_ret
      exact ⟨rfl, rfl⟩

end Go.Proofs.Ytnpaejknoipicaf
